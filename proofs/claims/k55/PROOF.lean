import PyProof.Rows.All
import Wide.All
import OpenK.AllK
import Wide.FinOn
import HandS.ForMost
import HandS.Wide
import HandS.SortKw
import HandS.List
import HandS.More
import HandS.Conv
import HandS.Lambda
import PyProof.TypeEq
import HandS.SetKeys
import HandS.Words
import PyProof.InstEq
import HandS.SetBool
import HandS.Strs
import HandS.IsInst
import HandS.Walk
import HandS.Style
import HandS.Set
import HandS.TupAny
import PyProof.NeKinds
import HandS.SortInts
import KE.GoesEnumKw
import HandS.Zip0
import HandS.NamedTupSort
import HandS.Sort
import HandS.Dict
import HandS.DictComp
import PyProof.ReprRoads
import HandS.FStrTup
import HandS.Defaults
import HandS.WordsDict
import KE.KDictDisplayH
import HandS.MakeKw
import HandS.MakeKwOnly
import HandS.Codes
import HandS.OwnEq
import PyProof.InstNe
import KE.DataMinMax
import HandS.Comp
import HandS.RaiseMore
import HandS.FStr
import HandS.WordsExc
import HandS.Steps
import HandS.Text
import PyProof.EqKinds
import HandS.Call
import PyProof.StrOps2
import HandS.Exc
import HandS.TryOnly
import KE.KExcIs
import HandS.ExcIs
import HandS.ExcField
import HandS.ExcInit
import PyProof.ListOps
import HandS.Deep
import HandS.EndTab
import HandS.Head0
import HandS.Head1
import HandS.Head2
import HandS.HeadEnd
import HandS.HeadHook1
import HandS.HeadHook2
import HandS.HeadHook3
import HandS.HeadHook4
import PySem.Challenge.RW_turnless_k55_least_of_a_kind
set_option Elab.async false
set_option linter.all false
set_option maxRecDepth 100000
set_option maxHeartbeats 0
-- part: A0
namespace Toy
open PySem L2
/-! ### readings, evaluated -/
section
variable {D : Ends} {σ : St} {H : Hp} {Q : VK}
theorem e_seq {t u : TS} : tSeq t u D σ H = t { D with nx := u D } σ H := rfl
theorem e_asg {te : TE} {i : Nat} : tAsg te (gName i) D σ H = te σ H fun x H1 => D.nx (σ.set i (some x)) H1 := rfl
theorem e_asgS {te to ti : TE} {t : TSet} : tAsg te (gSub to ti t) D σ H = te σ H fun v H1 => to σ H1 fun o H2 => ti σ H2 fun i H3 => t o i v H3 fun H4 => D.nx σ H4 := rfl
theorem e_ret {te : TE} : tRet te D σ H = te σ H D.rt := rfl
theorem e_ifS {c : TT} {t u : TS} : tIfS c t u D σ H = c σ H fun b H1 => if b = true then t D σ H1 else u D σ H1 := rfl
theorem e_c {v : V} : tC v σ H Q = Q v H := rfl
theorem e_op {r : R2} {ta tb : TE} : tOp r ta tb σ H Q = ta σ H fun x H1 => tb σ H1 fun y H2 => r x y H2 Q := rfl
theorem e_test {te : TE} {q : Bool → Hp → Prop} : tTest te σ H q = te σ H fun x H1 => ∃ c, x = .bl c ∧ q c H1 := rfl
theorem e_rI0 {g : Int → Int → V} {i j : Int} : rI0 g (.int i) (.int j) H Q = Q (g i j) H := by
  refine propext ⟨?_, fun h => ⟨_, _, rfl, rfl, h⟩⟩
  rintro ⟨a, b, e1, e2, h⟩; cases e1; cases e2; exact h
theorem e_rI {C : Int → Int → Prop} {g : Int → Int → V} {i j : Int} : rI C g (.int i) (.int j) H Q = (C i j ∧ Q (g i j) H) := by
  refine propext ⟨?_, fun h => ⟨_, _, rfl, rfl, h⟩⟩
  rintro ⟨a, b, e1, e2, h⟩; cases e1; cases e2; exact h
theorem e_var0 {v : V} {s : List (Option V)} : tVar 0 (some v :: s) H Q = Q v H := by
  refine propext ⟨?_, fun h => ⟨_, rfl, h⟩⟩
  rintro ⟨a, e, h⟩; cases e; exact h
theorem e_varS {o : Option V} {n : Nat} {s : List (Option V)} : tVar (n + 1) (o :: s) H Q = tVar n s H Q := rfl
theorem e_bl {b : Bool} {q : Bool → Prop} : (∃ c, V.bl b = V.bl c ∧ q c) = q b := by
  refine propext ⟨?_, fun h => ⟨_, rfl, h⟩⟩
  rintro ⟨a, e, h⟩; cases e; exact h
theorem e_nil {q : List V → Hp → Prop} : tNil σ H q = q [] H := rfl
theorem e_cons {ta : TE} {t : TA} {q : List V → Hp → Prop} : tCons ta t σ H q = ta σ H fun x H1 => t σ H1 fun xs H2 => q (x :: xs) H2 := rfl
theorem e_call {sp : Sp} {dvs : List V} {E : XK} {t : TA} : tCall sp dvs E t σ H Q = t σ H fun vs H1 => sp (vs ++ dvs) H1 Q E := rfl
theorem e_cb {r : List V → Hp → VK → Prop} {t : TA} : tCB r t σ H Q = t σ H fun vs H1 => r vs H1 Q := rfl
theorem e_next : tNext D σ H = D.nx σ H := rfl
theorem e_bl2 {b : Bool} {q : Bool → Hp → Prop} : (∃ c, V.bl b = V.bl c ∧ q c H) = q b H := by
  refine propext ⟨?_, fun h => ⟨_, rfl, h⟩⟩
  rintro ⟨a, e, h⟩; cases e; exact h
end
section
variable {D : Ends} {σ : St} {H : Hp} {Q : VK}
theorem e_and {a b : TE} : tAndV a b σ H Q = a σ H fun x H1 => ∃ c, x = .bl c ∧ if c = true then b σ H1 Q else Q (.bl false) H1 := rfl
theorem e_chain {r r' : R2} {a b c : TE} : tChain r r' a b c σ H Q = a σ H fun x H1 => b σ H1 fun y H2 => r x y H2 fun z H3 => ∃ k, z = .bl k ∧ (if k = true then c σ H3 fun w' H4 => r' y w' H4 Q else Q (.bl false) H3) := rfl
theorem e_tif {t : TT} {a b : TE} : tIf t a b σ H Q = t σ H fun c H1 => if c = true then a σ H1 Q else b σ H1 Q := rfl
theorem e_not {t : TT} {q : Bool → Hp → Prop} : tNot t σ H q = t σ H fun c H1 => q (!c) H1 := rfl
theorem e_tb {t : TE} {q : Bool → Hp → Prop} : tB t σ H q = t σ H fun x H1 => ∃ c, x = .bl c ∧ q c H1 := rfl
theorem e_drop {te : TE} : tDrop te D σ H = te σ H fun _ H1 => D.nx σ H1 := rfl
theorem e_or {t u : TT} {q : Bool → Hp → Prop} : tOr t u σ H q = t σ H fun c H1 => if c = true then q true H1 else u σ H1 q := rfl
theorem e_andT {t u : TT} {q : Bool → Hp → Prop} : tAnd t u σ H q = t σ H fun c H1 => if c = true then u σ H1 q else q false H1 := rfl
theorem e_din {ty td : TE} : tDIn ty td σ H Q = ty σ H fun y H1 => td σ H1 fun x H2 => ∃ a o, x = .ref a ∧ DGet H2 a y o ∧ Q (.bl o.isSome) H2 := rfl
theorem e_dnotin {ty td : TE} : tDNotIn ty td σ H Q = ty σ H fun y H1 => td σ H1 fun x H2 => ∃ a o, x = .ref a ∧ DGet H2 a y o ∧ Q (.bl (!o.isSome)) H2 := rfl
theorem e_un {r : V → Hp → VK → Prop} {ta : TE} : tUn r ta σ H Q = ta σ H fun x H1 => r x H1 Q := rfl
theorem e_rU {g : Int → V} {i : Int} : rU g (.int i) H Q = Q (g i) H := by
  refine propext ⟨?_, fun h => ⟨_, rfl, h⟩⟩
  rintro ⟨a, e, h⟩; cases e; exact h
theorem e_dput {td ty tv : TE} : sDPut td ty tv D σ H = tv σ H fun v H1 => td σ H1 fun x H2 => ty σ H2 fun y H3 => ∃ a H4, x = .ref a ∧ DPut H3 a y v H4 ∧ D.nx σ H4 := rfl
theorem e_x1 {v : V} {q : V → Prop} : (∃ x, [v] = [x] ∧ q x) = q v := by
  refine propext ⟨?_, fun h => ⟨_, rfl, h⟩⟩
  rintro ⟨i, e, h⟩; cases e; exact h
theorem e_notV {a : TE} : tNotV a σ H Q = a σ H fun x H1 => ∃ c, x = .bl c ∧ Q (.bl (!c)) H1 := rfl
theorem e_orV {a b : TE} : tOrV a b σ H Q = a σ H fun x H1 => ∃ c, x = .bl c ∧ if c = true then Q (.bl true) H1 else b σ H1 Q := rfl
theorem e_fld {K : PySem.W.Frag} {ta tv : TE} {f : Str} : sFld K ta tv f D σ H = tv σ H fun y H1 => ta σ H1 fun x H2 => ∃ a C dx fs, x = .ref a ∧ H2 a = some (.ins C dx fs) ∧ Cls K C ∧ NoAttr K C f ∧ fs.length < 1000 ∧ D.nx σ (upd H2 a (.ins C dx (putF f y fs))) := rfl
theorem e_par {i j : Nat} {ta : TA} : tPar i j ta D σ H = ta σ H fun vs H1 => ∃ v w, vs = [v, w] ∧ D.nx ((σ.set i (some v)).set j (some w)) H1 := rfl
theorem e_vw {a b : V} {q : V → V → Prop} : (∃ v w, [a, b] = [v, w] ∧ q v w) = q a b := by
  refine propext ⟨?_, fun h => ⟨_, _, rfl, h⟩⟩
  rintro ⟨i, j, e, h⟩; cases e; exact h
theorem e_dnewK : tDNewK σ H Q = ∀ p, H p = none → Q (.ref p) (upd H p (.dK [])) := rfl
theorem e_gName {i : Nat} {v : V} {q : St → Hp → Prop} : gName i v σ H q = q (σ.set i (some v)) H := rfl
theorem e_bm {K : PySem.W.Frag} {T : String} {r : V → List V → Hp → VK → Prop} {to : TE} {t : TA} : tBM K T r to t σ H Q = to σ H fun x H1 => tyV K T x H1 ∧ t σ H1 fun xs H2 => r x xs H2 Q := rfl
theorem e_i1 {a : Int} {q : Int → Prop} : (∃ i, [V.int a] = [V.int i] ∧ q i) = q a := by
  refine propext ⟨?_, fun h => ⟨_, rfl, h⟩⟩
  rintro ⟨i, e, h⟩; cases e; exact h
end
theorem p_ix {K : PySem.W.Frag} {H : Hp} {Q : VK} {p : Addr} {xs : List V} {i : Int} {v : V} (h : SqL K H p xs) (e : atI xs i = some v) (q : Q v H) : rIxL K (.ref p) (.int i) H Q := ⟨p, xs, i, v, rfl, rfl, h, e, q⟩
theorem p_set {H : Hp} {Q : Hp → Prop} {p : Addr} {xs : List V} {i : Int} {j : Nat} {v : V} (h : H p = some (.lst xs)) (e : ixN xs.length i = some j) (q : Q (upd H p (.lst (xs.set j v)))) : rSetL (.ref p) (.int i) v H Q := ⟨p, xs, i, j, rfl, rfl, h, e, q⟩
theorem e_cxK {CX : CXT} {P : Program} {w : World} {K : PySem.W.Frag} {mg : Str → Option Value} {base : Heap} {N : List Str} {qual : Str} {sc : Scope} {f : Addr} {cdv : Value} {A : Around} {outer : List Env} {s : Shared} {H : Hp} {E : XK} : (cxOf CX P w K mg base N qual sc f cdv A outer s H E).K = K := rfl
theorem e_ii {a b : Int} {q : Int → Int → Prop} : (∃ i j, [V.int a, V.int b] = [V.int i, V.int j] ∧ q i j) = q a b := by
  refine propext ⟨?_, fun h => ⟨_, _, rfl, h⟩⟩
  rintro ⟨i, j, e, h⟩; cases e; exact h
theorem e_lst {t : TA} {σ : St} {H : Hp} {Q : VK} : tLst t σ H Q = t σ H fun xs H1 => xs.length ≤ sizeLine ∧ ∀ p, H1 p = none → Q (.ref p) (upd H1 p (.lst xs)) := rfl
theorem e_tup {t : TA} {σ : St} {H : Hp} {Q : VK} : tTup t σ H Q = t σ H fun xs H1 => xs.length ≤ sizeLine ∧ ∀ p, H1 p = none → Q (.ref p) (upd H1 p (.tup xs)) := rfl
theorem p_neD {K : PySem.W.Frag} {H : Hp} {Q : VK} {x y : V} {d e : PyData} (hd : Dp K H x d) (he : Dp K H y e) (sd : SeqAt.shaped d = true) (se : SeqAt.shaped e = true) (q : Q (.bl (!PyData.eqv d e)) H) : rNeD K x y H Q := ⟨d, e, hd, he, sd, se, q⟩
theorem p_eqD {K : PySem.W.Frag} {H : Hp} {Q : VK} {x y : V} {d e : PyData} (hd : Dp K H x d) (he : Dp K H y e) (sd : SeqAt.shaped d = true) (se : SeqAt.shaped e = true) (q : Q (.bl (PyData.eqv d e)) H) : rEqD K x y H Q := ⟨d, e, hd, he, sd, se, q⟩
theorem at_ints {ns : List Int} {i : Int} (h0 : 0 ≤ i) (h1 : i < ns.length) : ∃ z, atI (ns.map V.int) i = some (V.int z) := by
  obtain ⟨j, rfl⟩ := Int.eq_ofNat_of_zero_le h0
  have hj : j < ns.length := by omega
  refine ⟨ns[j], atI_nat ?_⟩
  rw [List.getElem?_map, List.getElem?_eq_getElem hj]
  rfl
theorem p_app {H : Hp} {Q : VK} {l : Addr} {xs : List V} {y : V} (h : H l = some (.lst xs)) (z : xs.length < sizeLine) (q : Q .non (upd H l (.lst (xs ++ [y])))) : rAppend (.ref l) [y] H Q := ⟨l, xs, y, rfl, rfl, h, z, q⟩
/-! ### what stands but for one object -/
def Ex (d : Addr) (H H' : Hp) : Prop := ∀ b o, H b = some o → b ≠ d → H' b = some o
theorem Ex.refl (d : Addr) (H : Hp) : Ex d H H := fun _ _ h _ => h
theorem Ex.trans {d : Addr} {H H1 H2 : Hp} (a : Ex d H H1) (b : Ex d H1 H2) : Ex d H H2 := fun c o h n => b c o (a c o h n) n
theorem Ex.new {d p : Addr} {H : Hp} {o : HO} (h : H p = none) : Ex d H (upd H p o) := fun b u e _ => by rw [upd_ne (ne_of_none e h)]; exact e
theorem Ex.at {d : Addr} {H : Hp} {o : HO} : Ex d H (upd H d o) := fun b u e n => by rw [upd_ne n]; exact e
theorem Ex.same {d : Addr} {H H' : Hp} (e : Same H H') : Ex d H H' := fun b o h _ => e b o h
theorem Ex.sql {d : Addr} {K : PySem.W.Frag} {H H' : Hp} {a : Addr} {xs : List V} (e : Ex d H H') (n : a ≠ d) (h : SqL K H a xs) : SqL K H' a xs := by
  rcases h with (h | ⟨o, h⟩) | h
  · exact .inl (.inl (e _ _ h n))
  · exact .inl (.inr ⟨o, e _ _ h n⟩)
  · exact .inr h
theorem Same.new {p : Addr} {H : Hp} {o : HO} (h : H p = none) : Same H (upd H p o) := fun b u e => by rw [upd_ne (ne_of_none e h)]; exact e
/-- the draws: a list of the script and a count -/
structure Dr (K : PySem.W.Frag) (H : Hp) (d sc : Addr) (ns : List Int) (n : Int) : Prop where
  dr : H d = some (.lst [.ref sc, .int n])
  sq : SqL K H sc (ns.map V.int)
  len : ns.length ≤ 63
  pos : 0 ≤ n
def DrOk (K : PySem.W.Frag) (H : Hp) (d : Addr) : Prop := ∃ sc ns n, Dr K H d sc ns n
theorem DrOk.same {K : PySem.W.Frag} {H H' : Hp} {d : Addr} (e : Same H H') : DrOk K H d → DrOk K H' d := fun ⟨sc, ns, n, h⟩ => ⟨sc, ns, n, e _ _ h.dr, Same.seq e h.sq, h.len, h.pos⟩
theorem DrOk.nd {K : PySem.W.Frag} {H : Hp} {d p : Addr} (h : DrOk K H d) (hp : H p = none) : p ≠ d := fun e => by
  obtain ⟨sc, ns, n, D⟩ := h
  rw [e, D.dr] at hp
  cases hp
theorem ne_ints {sc : Addr} {n : V} {ns : List Int} {r : List V} : ns.map V.int ≠ V.ref sc :: r := fun e => by
  cases ns with
  | nil => cases e
  | cons a l => cases e
theorem Dr.sqx {K : PySem.W.Frag} {H H' : Hp} {d sc : Addr} {ns : List Int} {n : Int} (D : Dr K H d sc ns n) (e : Ex d H H') : SqL K H' sc (ns.map V.int) := by
  have h := D.sq
  have hd := D.dr
  rcases h with (h | ⟨o, h⟩) | h
  · exact .inl (.inl (e _ _ h fun z => by
      rw [z, hd] at h
      exact ne_ints (n := .non) (HO.lst.inj (Option.some.inj h)).symm))
  · exact .inl (.inr ⟨o, e _ _ h fun z => by
      rw [z, hd] at h
      cases h⟩)
  · exact .inr h
def DrA (K : PySem.W.Frag) (sc : Addr) (ns : List Int) (H : Hp) (d : Addr) : Prop := ∃ n, Dr K H d sc ns n
theorem DrA.same {K : PySem.W.Frag} {sc : Addr} {ns : List Int} {H H' : Hp} {d : Addr} (e : Same H H') : DrA K sc ns H d → DrA K sc ns H' d := fun ⟨n, h⟩ => ⟨n, e _ _ h.dr, Same.seq e h.sq, h.len, h.pos⟩
theorem DrA.nd {K : PySem.W.Frag} {sc : Addr} {ns : List Int} {H : Hp} {d p : Addr} (h : DrA K sc ns H d) (hp : H p = none) : p ≠ d := DrOk.nd ⟨_, _, h⟩ hp
/-- a write to an object that was made since -/
theorem DrA.up {K : PySem.W.Frag} {sc : Addr} {ns : List Int} {H0 H : Hp} {d p : Addr} {o : HO} (h0 : DrA K sc ns H0 d) (h : DrA K sc ns H d) (e : Ex d H0 H) (hp : H0 p = none) : DrA K sc ns (upd H p o) d := by
  obtain ⟨n0, D0⟩ := h0
  obtain ⟨n, D⟩ := h
  have nd := DrA.nd ⟨n0, D0⟩ hp
  exact ⟨n, by rw [upd_ne (Ne.symm nd)]; exact D.dr, Dr.sqx D0 (fun b o hb n => by rw [upd_ne (ne_of_none hb hp)]; exact e b o hb n), D.len, D.pos⟩
theorem Ex.up {d p : Addr} {H0 H : Hp} {o : HO} (e : Ex d H0 H) (hp : H0 p = none) : Ex d H0 (upd H p o) := fun b o hb n => by rw [upd_ne (ne_of_none hb hp)]; exact e b o hb n
theorem can_ints : ∀ (l : List Int), PyData.canLayAll0 (l.map PyData.int) = true
  | [] => by simp [PyData.canLayAll0]
  | i :: r => by simp [PyData.canLayAll0, PyData.canLay0, can_ints r]
theorem dep_ints : ∀ (l : List Int), PyData.depthAll (l.map PyData.int) ≤ 1
  | [] => by simp [PyData.depthAll]
  | i :: r => by
    have h := dep_ints r
    simp [PyData.depthAll, PyData.depth] <;> omega
theorem shaped_lints (l : List Int) : SeqAt.shaped (.list (l.map PyData.int)) = true := by
  have h := dep_ints l
  unfold SeqAt.shaped
  rw [Bool.and_eq_true]
  refine ⟨by simp [PyData.canLay0, can_ints], decide_eq_true ?_⟩
  simp only [PyData.depth]
  omega
theorem dp_ints {K : PySem.W.Frag} {H : Hp} : ∀ (l : List Int), DpAll K H (l.map V.int) (l.map PyData.int)
  | [] => .nil
  | i :: r => .cons (.int i) (dp_ints r)
end Toy

-- part: SK1
namespace SrtQ
open PySem PyProof.Rows Srt SrtO
section
variable {prog : Program} {w : World} {A : Around} {E : Value → Shared → Prop} {s : Shared} {a kS : Addr} {e1 : Nat} {vs : List Value}
/-- what runs behind the keys: out is made of the pairs (key, item) in order -/
def Good (ltk : Value → Value → Bool) (ks vs out : List Value) : Prop := ∃ ps : List Keyed, Srtd (lt2 ltk) ps ∧ Stb (lt2 ltk) ps (ks.zip vs) ∧ out = ps.map (·.2)
def endH (h : Heap) (a kS : Addr) (out : List Value) : Heap := (h.update kS (Obj.mapSeq fun _ => (#[] : Array Value))).update a (Obj.mapSeq fun _ => out.toArray)
theorem zip_arr (ks vs : List Value) : (ks.toArray.zip vs.toArray).toList = ks.zip vs := by
  rw [ksk_zip]
theorem tail_ {ltk : Value → Value → Bool} {ks : List Value} {e : Nat} {st : SortSt} {R : PySem.Fin → Shared → Prop} (hka : kS ≠ a) (hk : s.heap.get? kS = some (seqObj "list" ks.toArray e)) (ha : s.heap.get? a = some (seqObj "list" #[] e1))
    (hl : ks.length = vs.length) (hz : vs.length ≤ sizeLine) (h1 : Srtd (lt2 ltk) (arrOf st).toList) (h2 : Stb (lt2 ltk) (arrOf st).toList (ks.zip vs)) (hf : failedOf st = none)
    (h : ∀ out tk, Good ltk ks vs out → R (.done (.ret .none)) { s with heap := endH s.heap a kS out, toks := tk }) :
    wpAny (model prog w) A (ksk_tail a false e1 (.ref kS) st) R E s := by
  have s1 := Heap.SameBut.update s.heap kS (Obj.mapSeq fun _ => (#[] : Array Value))
  have na1 : (s.heap.update kS (Obj.mapSeq fun _ => (#[] : Array Value))).get? a = some (seqObj "list" #[] e1) := (s1.2 a hka.symm).trans ha
  have hsz : (arrOf st).size = vs.length := by
    have q := h2.len
    rw [Array.length_toList, List.length_zip, hl, Nat.min_self] at q
    exact q
  unfold ksk_tail
  try dsimp only
  refine wpAny_bind (listUpdate_at hk rfl ?_ (by rw [List.size_toArray, hl]; exact hz) (Nat.zero_le _))
  refine wpAny_bind (wpAny_letGo ?_)
  refine wpAny_bind (seqEpoch_at na1 rfl ?_)
  refine wpAny_bind (listUpdate_at na1 rfl ?_ (Nat.zero_le _) ?_)
  · rw [hf]
    simp only [bne_self_eq_false, Bool.false_eq_true, if_false]
    have q := h ((arrOf st).toList.map (·.2)) s.toks ⟨_, h1, h2, rfl⟩
    have e2 : ((arrOf st).toList.map (·.2)).toArray = (arrOf st).map (·.2) := by
      apply Array.ext'
      simp
    unfold endH at q
    rw [e2] at q
    exact wpAny_pure q
  · simp only [Bool.false_eq_true, if_false, Array.size_map]
    omega
theorem end_ {ltk : Value → Value → Bool} {ks : List Value} {e : Nat} {R : PySem.Fin → Shared → Prop} (O : Swo ltk) (hka : kS ≠ a) (hk : s.heap.get? kS = some (seqObj "list" ks.toArray e)) (ha : s.heap.get? a = some (seqObj "list" #[] e1))
    (hl : ks.length = vs.length) (hz : vs.length ≤ sizeLine)
    (hS : 2 ≤ vs.length → ∃ κ, (∀ (Q : SortKind → Shared → Prop) (E : Value → Shared → Prop), Q κ s → wpAny (model prog w) A (keyKind' ks.toArray) Q E s) ∧ Cmp prog w A s κ (fun p => p.1 ∈ ks) (lt2 ltk))
    (h : ∀ out tk, Good ltk ks vs out → R (.done (.ret .none)) { s with heap := endH s.heap a kS out, toks := tk }) :
    wpAny (model prog w) A (ksk_end a false vs.toArray e1 (.ref kS) ks.toArray) R E s := by
  unfold ksk_end
  try dsimp only
  simp only [Bool.false_eq_true, if_false]
  by_cases h2 : vs.toArray.size < 2
  · rw [if_pos h2, if_pos h2]
    refine wpAny_bind (wpAny_pure ?_)
    rw [StateT.run_pure]
    refine wpAny_bind (wpAny_pure ?_)
    try dsimp only
    refine tail_ (st := SortSt.mk' general' (ks.toArray.zip vs.toArray) #[] 7 none) hka hk ha hl hz ?_ ?_ rfl h
    · show Srtd (lt2 ltk) (ks.toArray.zip vs.toArray).toList
      rw [zip_arr]
      rw [List.size_toArray] at h2
      match ks, vs, hl, h2 with
      | [], [], _, _ => exact List.Pairwise.nil
      | [k], [v], _, _ => exact List.pairwise_singleton _ _
      | _ :: _ :: _, _, hl, h2 => exact absurd h2 (by rw [← hl, List.length_cons, List.length_cons]; omega)
    · show Stb (lt2 ltk) (ks.toArray.zip vs.toArray).toList _
      rw [zip_arr]
      exact Stb.refl _
  · rw [if_neg h2, if_neg h2]
    rw [List.size_toArray] at h2
    obtain ⟨κ, hkind, hT⟩ := hS (by omega)
    refine wpAny_bind (hkind _ _ ?_)
    have hall : AllL (fun p : Keyed => p.1 ∈ ks) (ks.toArray.zip vs.toArray).toList := fun p hm => by
      rw [zip_arr] at hm
      exact (List.of_mem_zip hm).1
    refine wpAny_bind (wpAny_mono (wpS_sortO (st0 := SortSt.mk' κ (ks.toArray.zip vs.toArray) #[] 7 none)
      (Q := fun _ st' => Srtd (lt2 ltk) (arrOf st').toList ∧ Stb (lt2 ltk) (arrOf st').toList (ks.toArray.zip vs.toArray).toList ∧ failedOf st' = none) (swo2 O) hT rfl hall rfl rfl fun st' a1 a2 a3 => ⟨a1, a2, a3⟩) ?_ fun _ _ e => e)
    rintro ⟨⟨⟩, st'⟩ s' ⟨rfl, hp1, hp2, hf⟩
    try dsimp only
    rw [zip_arr] at hp2
    exact tail_ hka hk ha hl hz hp1 hp2 hf h
/-- the keys are asked one by one; J: what is kept meanwhile, of the keys so far and of the list that takes them -/
theorem rest_ {f : Value} {R : PySem.Fin → Shared → Prop} (J : List Value → Obj → Shared → Prop) (hka : kS ≠ a)
    (hJ : ∀ ks o s', J ks o s' → s'.heap.get? kS = some o ∧ s'.heap.get? a = some (seqObj "list" #[] e1))
    (up : ∀ ks o s' ks' c, J ks o s' → (s'.heap.update kS (Obj.mapSeq fun x => x.push ks')).get? kS = some c → c.cls = .type "list" → (∀ v, c.data ≠ .cell v) → J ks c { s' with heap := s'.heap.update kS (Obj.mapSeq fun x => x.push ks') })
    (step : ∀ i x ks o s', vs[i]? = some x → ks.length = i → J ks o s' → wpAny (model prog w) A (call f [x]) (fun k s'' => J (ks ++ [k]) o s'') (fun _ _ => False) s')
    (hz : vs.length ≤ sizeLine) (h0 : J [] (seqObj "list" #[] 0) s)
    (fin : ∀ ks e s', J ks (seqObj "list" ks.toArray e) s' → ks.length = vs.length → ∃ ltk : Value → Value → Bool, Swo ltk ∧
      (2 ≤ vs.length → ∃ κ, (∀ (Q : SortKind → Shared → Prop) (E : Value → Shared → Prop), Q κ s' → wpAny (model prog w) A (keyKind' ks.toArray) Q E s') ∧ Cmp prog w A s' κ (fun p => p.1 ∈ ks) (lt2 ltk)) ∧
      ∀ out tk, Good ltk ks vs out → R (.done (.ret .none)) { s' with heap := endH s'.heap a kS out, toks := tk }) :
    wpAny (model prog w) A (ksk_rest a f false vs.toArray e1 (.ref kS)) R E s := by
  unfold ksk_rest
  refine wpAny_bind (wpAny_rule ?_)
  first
    | rw [List.forIn_toArray]
    | (rw [← Array.forIn_toList]; simp only [List.toList_toArray])
    | rw [← Array.forIn_toList]
  refine wpAny_bind (ksk_fold (fun i s' => ∃ ks e, ks.length = i ∧ J ks (seqObj "list" ks.toArray e) s') vs 0 s ⟨[], 0, rfl, h0⟩ ?step ?done)
  case step =>
    rintro j x s' hx ⟨ks, e, hl, hj⟩
    simp only [Nat.zero_add] at hl ⊢
    have hlt : j < vs.length := (List.getElem?_eq_some_iff.mp hx).1
    refine wpAny_bind (wpAny_attempt (wpAny_mono (step j x ks _ s' hx hl hj) (fun k s'' he => ?_) fun _ _ hF => hF.elim))
    have nk := (hJ _ _ _ he).1
    obtain ⟨c2, hc2⟩ : ∃ c2, (s''.heap.update kS (Obj.mapSeq (·.push k))).get? kS = some (seqObj "list" (ks.toArray.push k) c2) := ⟨_, get?_update_seq nk (·.push k)⟩
    try dsimp only
    refine wpAny_bind (listUpdate_at nk rfl ?_ (by rw [List.size_toArray]; omega) (by rw [Array.size_push, List.size_toArray]; omega))
    refine wpAny_pure ⟨rfl, ks ++ [k], c2, by rw [List.length_append, hl]; rfl, ?_⟩
    have q := up _ _ _ k _ he hc2 rfl (fun v z => by cases z)
    have e3 : (ks ++ [k]).toArray = ks.toArray.push k := by simp
    rw [e3]
    exact q
  case done =>
    rintro s' ⟨ks, e, hl, hj⟩
    simp only [Nat.zero_add] at hl
    obtain ⟨nk, na⟩ := hJ _ _ _ hj
    try dsimp only
    refine wpAny_bind (listItems_at nk rfl ?_)
    obtain ⟨ltk, O, h1, h2⟩ := fin _ _ _ hj hl
    exact end_ O hka nk na hl hz h1 h2
end
end SrtQ

-- part: SK2
namespace L2
open PySem PySem.Spec PyProof.Rows SrtO SrtQ
/-- a value without its token -/
def toV : Value → V
  | .none => .non
  | .bool b => .bl b
  | .int i _ => .int i
  | .str x _ => .str x
  | .bytes b _ => .byt b
  | .float b _ => .flt b
  | .ref a => .ref a
  | .type n => .ty n
  | _ => .non
theorem toV_of {x : V} {u : Value} (r : RelV x u) : toV u = x := by
  cases x with
  | non => cases r; rfl
  | bl b => cases r; rfl
  | int i => obtain ⟨t, rfl⟩ := r; rfl
  | str x => obtain ⟨t, rfl⟩ := r; rfl
  | byt b => obtain ⟨t, rfl⟩ := r; rfl
  | flt b => obtain ⟨t, rfl⟩ := r; rfl
  | ref a => cases r; rfl
  | ty n => cases r; rfl
theorem vals_toV : ∀ {xs : List V} {us : List Value}, Vals xs us → xs = us.map toV
  | _, _, .nil => rfl
  | _, _, .cons r t => by rw [List.map_cons, toV_of r, ← vals_toV t]
theorem vals_mem : ∀ {xs : List V} {us : List Value}, Vals xs us → ∀ u ∈ us, RelV (toV u) u
  | _, _, .cons r t, u, h => by
    rcases List.mem_cons.mp h with e | h
    · rw [e, toV_of r]; exact r
    · exact vals_mem t u h
theorem vals_of : ∀ {us : List Value}, (∀ u ∈ us, RelV (toV u) u) → Vals (us.map toV) us
  | [], _ => .nil
  | u :: us, h => .cons (h u List.mem_cons_self) (vals_of fun v hv => h v (List.mem_cons_of_mem _ hv))
/-- an untracked object of ours is tracked from here on -/
theorem Inv.track {X : Cx} {pins : List (Addr × Obj)} {σ : St} {H : Hp} {s : Shared} {D : Addr} {o : HO} (I : Inv X pins σ H s) (fD : FpOk X pins H D) (new : ObjOk X.prog X.w (upd H D o) s.heap D o) : Inv X pins σ (upd H D o) s := by
  have hok : HOk X.prog X.w (upd H D o) s.heap := fun b u e => by
    by_cases hb : b = D
    · subst hb; rw [upd_same] at e; cases e; exact new
    · rw [upd_ne hb] at e
      exact (I.hok b u e).stay (fun c v _ q => q) (fun c q => by rw [upd_ne (ne_of_none q fD.1)]; exact q) fun c xs q => by rw [upd_ne (ne_of_none q fD.1)]; exact q
  have q := I.step (g' := s.gens) (d' := s.drawn) (t' := s.toks) (h' := s.heap) (H' := upd H D o) (ch := [D]) (fun b hb => by
      rw [List.mem_singleton.mp hb]
      exact ⟨fD.2.2.2.1, fD.2.1, fD.2.2.2.2.1, fD.2.2.2.2.2⟩)
    (fun b o _ _ _ e _ => e) (fun b o _ _ _ e _ => ⟨o.slots, e⟩) (fun b o hc e n => by rw [upd_ne fun z => hc (by rw [z]; exact List.mem_singleton.mpr rfl)]; exact n) (fun b o _ e => ⟨o, e⟩)
    (fun b xs e => by rw [upd_ne (ne_of_none e fD.1)]; exact e) (fun b o u e => by rw [upd_ne (ne_of_none e fD.1)]; exact e) (fun b ps e => ⟨#[], by rw [upd_ne (ne_of_none e fD.1), e]; simp⟩) (fun m h => h) hok I.bare
  exact q
section
variable {X : Cx} {pins : List (Addr × Obj)} {σ : St} {H : Hp} {s : Shared} {f : Value} {its : List Value} {xs : List V} {R : Result → Shared → Prop} {Q : VK}
/-- what is left of sorted once the items are gathered -/
def sortRest (its : List Value) (kw : List (Str × Value)) : Sem PySem.Fin := do
  let l ← newList its
  let _ ← holding [l] (call (.builtin "list.sort") [l] kw)
  ret l
/-- the pairs (key, item) in order -/
def GoodP (ltk : Value → Value → Bool) (ks its : List Value) (ps : List (Value × Value)) : Prop := Srtd (lt2 ltk) ps ∧ ps.Perm (ks.zip its)
theorem sort_part {E : Value → Shared → Prop} {Z : PySem.Fin → Shared → Prop} (I : Inv X pins σ H s) (rv : Vals xs its) (hz : its.length ≤ sizeLine) (W : List V → Hp → Prop) (w0 : W [] H)
    (ht : ∀ a : Addr, Builtin.«list.sort» ⟨[.ref a], [(Str.ofString "key", f)]⟩ = ksk_tree a f false) (ha2 : ∀ a, argsOk "list.sort" ⟨[a], [(Str.ofString "key", f)]⟩)
    (step : ∀ (pins' : List (Addr × Obj)) (s' : Shared) (H' : Hp) (i : Nat) (x : V) (u : Value) (kv : List V), (∀ p ∈ pins, p ∈ pins') → Inv X pins' σ H' s' → RelV x u → xs[i]? = some x → kv.length = i → W kv H' →
      wpAny (model X.prog X.w) X.A.in1.in1 (call f [u]) (fun k s'' => ∃ kx H'', RelV kx k ∧ Inv X pins' σ H'' s'' ∧ W (kv ++ [kx]) H'') (fun _ _ => False) s')
    (fin : ∀ (pins : List (Addr × Obj)) (kv : List V) (ks : List Value) (H' : Hp) (s' : Shared), Inv X pins σ H' s' → Vals kv ks → W kv H' → kv.length = xs.length → ∃ ltk : Value → Value → Bool, Swo ltk ∧
      (2 ≤ its.length → ∃ κ, (∀ (Q : SortKind → Shared → Prop) (E : Value → Shared → Prop), Q κ s' → wpAny (model X.prog X.w) X.A.in1.in1 (keyKind' ks.toArray) Q E s') ∧ Cmp X.prog X.w X.A.in1.in1 s' κ (fun p => p.1 ∈ ks) (lt2 ltk)) ∧
      ∀ ps : List (Value × Value), GoodP ltk ks its ps → ∀ p, H' p = none → Q (.ref p) (upd H' p (.lst (ps.map fun q => toV q.2))))
    (hZ : ∀ v s', EP X pins σ Q v s' → Z (.done (.ret v)) s') :
    wpAny (model X.prog X.w) X.A.in1 (sortRest its [(Str.ofString "key", f)]) Z E s := by
  unfold sortRest
  refine wpAny_bind (wpAny_newList ?_ hz)
  have ho : (s.heap.push (seqObj "list" its.toArray 0)).get? s.heap.objs.size = some (seqObj "list" its.toArray 0) := Heap.get?_push_size _ rfl
  generalize hD : s.heap.objs.size = D at *
  show wpAny _ _ _ _ _ { s with heap := s.heap.push (seqObj "list" its.toArray 0) }
  refine wpAny_bind (wpAny_holding (wpAny_call_entry_kw slot_list_sort ⟨_, ho, rfl⟩ entry_list_sort ?body (ha2 _)))
  case body =>
    show wpAny (model X.prog X.w) X.A.in1.in1 (Builtin.«list.sort» ⟨[.ref D], [(Str.ofString "key", f)]⟩) _ _ _
    rw [ht]
    unfold ksk_tree
    refine wpAny_bind (listItems_at ho rfl ?_)
    refine wpAny_bind (listUpdate_at ho rfl ?_ (by rw [List.size_toArray]; exact hz) (Nat.zero_le _))
    obtain ⟨e1, ho1⟩ : ∃ e1, ((s.heap.push (seqObj "list" its.toArray 0)).update D (Obj.mapSeq fun _ => (#[] : Array Value))).get? D = some (seqObj "list" #[] e1) := ⟨_, get?_update_seq ho fun _ => #[]⟩
    refine wpAny_bind (seqEpoch_at ho1 rfl ?_)
    refine wpAny_bind (wpAny_newTuple ?_ (by show its.length ≤ _; exact hz))
    refine wpAny_bind (wpAny_newList ?_ (Nat.zero_le _))
    refine wpAny_holding ?_
    have z1 : ((s.heap.push (seqObj "list" its.toArray 0)).update D (Obj.mapSeq fun _ => (#[] : Array Value))).objs.size = D + 1 := by rw [Heap.size_update, size_push', hD]
    have z2 : (((s.heap.push (seqObj "list" its.toArray 0)).update D (Obj.mapSeq fun _ => (#[] : Array Value))).push (seqObj "tuple" its.toArray 0)).objs.size = D + 2 := by rw [size_push', z1]
    have hk0 : ((((s.heap.push (seqObj "list" its.toArray 0)).update D (Obj.mapSeq fun _ => (#[] : Array Value))).push (seqObj "tuple" its.toArray 0)).push (seqObj "list" #[] 0)).get? (D + 2) = some (seqObj "list" #[] 0) := by
      rw [← z2]; exact Heap.get?_push_size _ rfl
    have hD0 : ((((s.heap.push (seqObj "list" its.toArray 0)).update D (Obj.mapSeq fun _ => (#[] : Array Value))).push (seqObj "tuple" its.toArray 0)).push (seqObj "list" #[] 0)).get? D = some (seqObj "list" #[] e1) :=
      Heap.get?_push_of_some _ (Heap.get?_push_of_some _ ho1)
    have keep : ∀ b o, s.heap.get? b = some o → ((((s.heap.push (seqObj "list" its.toArray 0)).update D (Obj.mapSeq fun _ => (#[] : Array Value))).push (seqObj "tuple" its.toArray 0)).push (seqObj "list" #[] 0)).get? b = some o := fun b o q => by
      have hlt : b < D := by rw [← hD]; exact Heap.lt_size q
      refine Heap.get?_push_of_some _ (Heap.get?_push_of_some _ ?_)
      rw [Heap.get?_update_ne _ _ _ _ (Nat.ne_of_lt hlt)]
      exact Heap.get?_push_of_some _ q
    rw [z2]
    have hl : its.length = xs.length := rv.length.symm
    generalize hG : ((((s.heap.push (seqObj "list" its.toArray 0)).update D (Obj.mapSeq fun _ => (#[] : Array Value))).push (seqObj "tuple" its.toArray 0)).push (seqObj "list" #[] 0)) = G at hk0 hD0 keep
    show wpAny _ _ (ksk_rest D f false its.toArray e1 (.ref (D + 2))) _ _ { s with heap := G }
    have I0 : Inv X pins σ H { s with heap := G } := I.kept (t' := s.toks) keep
    have fD : FpOk X pins H D := I.fpOk (Nat.le_of_eq hD) (I.hok.fresh (Nat.le_of_eq hD))
    have fS : FpOk X pins H (D + 2) := I.fpOk (by omega) (I.hok.fresh (by omega))
    -- the pins of the two lists
    have pin2 : ∀ {H' : Hp} {s' : Shared} {o : Obj}, Inv X pins σ H' s' → H' D = none → H' (D + 2) = none → s'.heap.get? (D + 2) = some o → o.cls = .type "list" → (∀ v, o.data ≠ .cell v) → s'.heap.get? D = some (seqObj "list" #[] e1) → Inv X (((D + 2, o) : Addr × Obj) :: (D, seqObj "list" #[] e1) :: pins) σ H' s' := by
      intro H' s' o I' n1 n2 h2 _ nc h1
      refine I'.pins_of fun p hp => ?_
      rcases List.mem_cons.mp hp with rfl | hp
      · exact ⟨h2, n2, fS.2.1, fS.2.2.1, nc⟩
      · rcases List.mem_cons.mp hp with rfl | hp
        · exact ⟨h1, n1, fD.2.1, fD.2.2.1, fun v z => by cases z⟩
        · exact I'.pin p (List.mem_append_right _ hp)
    have unp : ∀ {H' : Hp} {s' : Shared} {o : Obj}, Inv X (((D + 2, o) : Addr × Obj) :: (D, seqObj "list" #[] e1) :: pins) σ H' s' → Inv X pins σ H' s' := fun I' => I'.pins_of fun p hp => I'.pin p (List.mem_append_right _ (List.mem_cons_of_mem _ (List.mem_cons_of_mem _ hp)))
    have atp : ∀ {H' : Hp} {s' : Shared} {o : Obj}, Inv X (((D + 2, o) : Addr × Obj) :: (D, seqObj "list" #[] e1) :: pins) σ H' s' → (s'.heap.get? (D + 2) = some o ∧ H' (D + 2) = none ∧ ∀ v, o.data ≠ .cell v) ∧ s'.heap.get? D = some (seqObj "list" #[] e1) ∧ H' D = none := fun I' => by
      have a1 := I'.pin _ (List.mem_append_right _ List.mem_cons_self)
      have a2 := I'.pin _ (List.mem_append_right _ (List.mem_cons_of_mem _ List.mem_cons_self))
      exact ⟨⟨a1.1, a1.2.1, a1.2.2.2.2⟩, a2.1, a2.2.1⟩
    refine rest_ (s := { s with heap := G }) (fun ks o s' => o.cls = .type "list" ∧ ∃ kv H', Vals kv ks ∧ W kv H' ∧ Inv X (((D + 2, o) : Addr × Obj) :: (D, seqObj "list" #[] e1) :: pins) σ H' s') (show (D + 2 : Nat) ≠ D by omega)
      (fun ks o s' ⟨_, kv, H', _, _, I'⟩ => ⟨(atp I').1.1, (atp I').2.1⟩) ?up ?step hz ⟨rfl, [], H, .nil, w0, pin2 I0 fD.1 fS.1 hk0 rfl (fun v z => by cases z) hD0⟩ ?fin
    case up =>
      rintro ks o s' k c ⟨_, kv, H', rk, wk, I'⟩ hc hcl hcd
      obtain ⟨⟨a1, a2, a3⟩, b1, b2⟩ := atp I'
      refine ⟨hcl, kv, H', rk, wk, ?_⟩
      have fS' : FpOk X pins H' (D + 2) := ⟨a2, fS.2⟩
      have I2 : Inv X pins σ H' { s' with heap := s'.heap.update (D + 2) (Obj.mapSeq fun x => x.push k), toks := s'.toks } := (unp I').turnedL (ch := [D + 2]) (fun b u hb hu => by
        have nb : b ≠ D + 2 := fun z => hb (by rw [z]; exact List.mem_singleton.mpr rfl)
        rw [Heap.get?_update_ne _ _ _ _ nb]
        exact hu) fun b hb => by rw [List.mem_singleton.mp hb]; exact fS'
      refine pin2 I2 b2 a2 hc hcl (fun v z => ?_) ?_
      · exact hcd v z
      · show (s'.heap.update (D + 2) _).get? D = _
        rw [Heap.get?_update_ne _ _ _ _ (show (D : Nat) ≠ D + 2 by omega)]
        exact b1
    case step =>
      rintro i u ks o s' hu hl' ⟨hcl, kv, H', rk, wk, I'⟩
      obtain ⟨x, hx, rx⟩ : ∃ x, xs[i]? = some x ∧ RelV x u := by
        have hi : i < xs.length := by rw [← hl]; exact (List.getElem?_eq_some_iff.mp hu).1
        obtain ⟨u', e1, e2⟩ := rv.get (List.getElem?_eq_getElem hi)
        rw [hu] at e1; cases e1
        exact ⟨_, List.getElem?_eq_getElem hi, e2⟩
      refine wpAny_mono (step _ s' H' i x u kv (fun p hp => List.mem_cons_of_mem _ (List.mem_cons_of_mem _ hp)) I' rx hx (by rw [rk.length, hl']) wk) (fun k s'' ⟨kx, H'', rk2, I2, w2⟩ => ?_) fun _ _ e => e
      exact ⟨hcl, kv ++ [kx], H'', rk.append (.cons rk2 .nil), w2, I2⟩
    case fin =>
      rintro ks e s' ⟨_, kv, H', rk, wk, I'⟩ hkl
      obtain ⟨⟨a1, a2, a3⟩, b1, b2⟩ := atp I'
      obtain ⟨ltk, O, h1, h2⟩ := fin _ kv ks H' s' I' rk wk (by rw [rk.length, hkl, hl])
      refine ⟨ltk, O, h1, ?_⟩
      rintro out tk ⟨ps, g1, g2, rfl⟩
      have hp2 : (ps.map (·.2)).Perm its := by
        have q := g2.perm.map (·.2)
        rw [List.map_snd_zip (by omega)] at q
        exact q
      have I2 : Inv X pins σ H' { s' with heap := endH s'.heap D (D + 2) (ps.map (·.2)), toks := tk } := (unp I').turnedL (ch := [D + 2, D]) (fun b u hb hu => by
        unfold endH
        rw [Heap.get?_update_ne _ _ _ _ (fun z => hb (by rw [z]; exact List.mem_cons_of_mem _ (List.mem_singleton.mpr rfl))), Heap.get?_update_ne _ _ _ _ (fun z => hb (by rw [z]; exact List.mem_cons_self))]
        exact hu) fun b hb => by
          rcases List.mem_cons.mp hb with rfl | hb
          · exact ⟨a2, fS.2⟩
          · rw [List.mem_singleton.mp hb]; exact ⟨b2, fD.2⟩
      obtain ⟨c2, hc2⟩ : ∃ c2, (endH s'.heap D (D + 2) (ps.map (·.2))).get? D = some (seqObj "list" (ps.map (·.2)).toArray c2) := by
        have b3 : (s'.heap.update (D + 2) (Obj.mapSeq fun _ => (#[] : Array Value))).get? D = some (seqObj "list" #[] e1) := by
          rw [Heap.get?_update_ne _ _ _ _ (show (D : Nat) ≠ D + 2 by omega)]; exact b1
        exact ⟨_, get?_update_seq b3 fun _ => (ps.map fun x : Keyed => x.2).toArray⟩
      refine ⟨_, rfl, wpAny_pure (hZ _ _ ?_)⟩
      have hv : Vals (ps.map fun q => toV q.2) (ps.map (·.2)) := by
        have q := vals_of (us := ps.map (·.2)) fun u hu => vals_mem rv u (hp2.mem_iff.mp hu)
        rw [List.map_map] at q
        exact q
      refine ⟨.ref D, upd H' D (.lst (ps.map fun q => toV q.2)), ?_, rfl, h2 ps ⟨g1, g2.perm⟩ D b2⟩
      refine I2.track ⟨b2, fD.2⟩ ⟨?_, ps.map (·.2), c2, hv, hc2⟩
      rw [List.length_map, ← List.length_map (f := fun x : Keyed => x.2), hp2.length_eq]
      exact hz
end
end L2

-- part: SK3
namespace L2
open PySem PySem.Spec PyProof.Rows SrtO SrtQ
/-! ### the order of the keys -/
def numV : Value → Int
  | .int i _ => i
  | _ => 0
theorem swo_of {α : Type} (k : Value → α) {lt : α → α → Bool} (O : Swo lt) : Swo fun u v => lt (k u) (k v) := ⟨fun _ _ => O.asym _ _, fun _ _ _ => O.tr _ _ _⟩
theorem swo_int : Swo (fun a b : Int => decide (a < b)) := by
  refine ⟨fun x y h => ?_, fun x y z h1 h2 => ?_⟩
  · have := of_decide_eq_true h
    exact decide_eq_false (by omega)
  · have a := of_decide_eq_false h1
    have b := of_decide_eq_false h2
    exact decide_eq_false (by omega)
section
variable {prog : Program} {w : World} {A : Around} {s : Shared}
theorem ints_kind {ks : List Value} {kz : List Int} (hk : IntsAre ks kz) (h2 : 2 ≤ ks.length) : ∃ κ, (∀ (Q : SortKind → Shared → Prop) (E : Value → Shared → Prop), Q κ s → wpAny (model prog w) A (keyKind' ks.toArray) Q E s) ∧
    Cmp prog w A s κ (fun p => p.1 ∈ ks) (lt2 fun u v => decide (numV u < numV v)) := by
  refine ⟨oneType', fun Q E q => ?_, fun p q hp hq => ?_⟩
  · rw [ksk_kind (kz := kz) (by simpa using hk) (by rw [List.size_toArray]; exact h2)]
    exact wpAny_pure q
  · have at_ : ∀ u ∈ ks, ∃ i t, u = Value.int i t := by
      clear h2 hp hq
      induction hk with
      | nil => intro u hu; exact nomatch hu
      | cons _ _ _ ih =>
        intro u hu
        rcases List.mem_cons.mp hu with rfl | hu
        · exact ⟨_, _, rfl⟩
        · exact ih u hu
    obtain ⟨i, t, e1⟩ := at_ _ hp
    obtain ⟨j, t', e2⟩ := at_ _ hq
    show wpAny _ _ (keyLt' oneType' p.1 q.1) (fun r s' => s' = s ∧ r = decide (numV p.1 < numV q.1)) _ _
    rw [e1, e2]
    exact PySem.W.kat_lt_int ⟨rfl, rfl⟩
end
/-- the tuple at v is (n, c), c a tuple of ints -/
def KeyT (K : PySem.W.Frag) (H : Hp) (v : V) (k : Int × List Int) : Prop := ∃ t c, v = .ref t ∧ SqT K H t [.int k.1, .ref c] ∧ SqT K H c (k.2.map V.int)
def ltKT (a b : Int × List Int) : Bool := if a.1 = b.1 then HT.lexLt a.2 b.2 else decide (a.1 < b.1)
theorem lex_irrefl : ∀ a : List Int, HT.lexLt a a = false
  | [] => rfl
  | x :: a => by rw [HT.lexLt_cons, if_pos rfl]; exact lex_irrefl a
theorem lex_asym : ∀ a b : List Int, HT.lexLt a b = true → HT.lexLt b a = false
  | [], [], h => by cases h
  | [], y :: b, _ => rfl
  | x :: a, [], h => by cases h
  | x :: a, y :: b, h => by
    rw [HT.lexLt_cons] at h ⊢
    by_cases e : x = y
    · rw [if_pos e] at h; rw [if_pos e.symm]; exact lex_asym a b h
    · rw [if_neg e] at h; rw [if_neg (Ne.symm e)]
      have := of_decide_eq_true h
      exact decide_eq_false (by omega)
theorem lex_tr : ∀ a b c : List Int, HT.lexLt a b = false → HT.lexLt c a = false → HT.lexLt c b = false
  | [], [], [], _, _ => rfl
  | [], [], z :: c, _, _ => rfl
  | [], y :: b, _, h, _ => by cases h
  | x :: a, b, [], _, h => by cases h
  | x :: a, [], z :: c, _, _ => rfl
  | x :: a, y :: b, z :: c, h1, h2 => by
    rw [HT.lexLt_cons] at h1 h2 ⊢
    by_cases e1 : x = y
    · rw [if_pos e1] at h1
      by_cases e2 : z = x
      · rw [if_pos e2] at h2
        rw [if_pos (e2.trans e1)]
        exact lex_tr a b c h1 h2
      · rw [if_neg e2] at h2
        rw [if_neg (by rw [← e1]; exact e2)]
        have := of_decide_eq_false h2
        exact decide_eq_false (by omega)
    · rw [if_neg e1] at h1
      have d1 := of_decide_eq_false h1
      by_cases e2 : z = x
      · rw [if_neg (by rw [e2]; exact e1)]
        exact decide_eq_false (by omega)
      · rw [if_neg e2] at h2
        have d2 := of_decide_eq_false h2
        rw [if_neg (by omega)]
        exact decide_eq_false (by omega)
theorem lex_total : ∀ a b : List Int, HT.lexLt a b = false → HT.lexLt b a = false → a = b
  | [], [], _, _ => rfl
  | [], y :: b, h, _ => by cases h
  | x :: a, [], _, h => by cases h
  | x :: a, y :: b, h1, h2 => by
    rw [HT.lexLt_cons] at h1 h2
    by_cases e : x = y
    · rw [if_pos e] at h1; rw [if_pos e.symm] at h2
      rw [e, lex_total a b h1 h2]
    · rw [if_neg e] at h1; rw [if_neg (Ne.symm e)] at h2
      have d1 := of_decide_eq_false h1
      have d2 := of_decide_eq_false h2
      omega
theorem swo_KT : Swo ltKT := by
  refine ⟨fun x y h => ?_, fun x y z h1 h2 => ?_⟩
  · unfold ltKT at *
    by_cases e : x.1 = y.1
    · rw [if_pos e] at h; rw [if_pos e.symm]; exact lex_asym _ _ h
    · rw [if_neg e] at h; rw [if_neg (Ne.symm e)]
      have := of_decide_eq_true h
      exact decide_eq_false (by omega)
  · unfold ltKT at *
    by_cases e1 : y.1 = x.1
    · rw [if_pos e1] at h1
      by_cases e2 : z.1 = y.1
      · rw [if_pos e2] at h2
        rw [if_pos (e2.trans e1)]
        exact lex_tr _ _ _ h1 h2
      · rw [if_neg e2] at h2
        rw [if_neg (by rw [← e1]; exact e2)]
        have := of_decide_eq_false h2
        exact decide_eq_false (by omega)
    · rw [if_neg e1] at h1
      have d1 := of_decide_eq_false h1
      by_cases e2 : z.1 = y.1
      · rw [if_neg (by rw [e2]; exact e1)]
        exact decide_eq_false (by omega)
      · rw [if_neg e2] at h2
        have d2 := of_decide_eq_false h2
        rw [if_neg (by omega)]
        exact decide_eq_false (by omega)
theorem can_intsD : ∀ (l : List Int), PyData.canLayAll0 (l.map PyData.int) = true
  | [] => by simp [PyData.canLayAll0]
  | i :: r => by simp [PyData.canLayAll0, PyData.canLay0, can_intsD r]
theorem dep_intsD : ∀ (l : List Int), PyData.depthAll (l.map PyData.int) ≤ 1
  | [] => by simp [PyData.depthAll]
  | i :: r => by
    have h := dep_intsD r
    simp [PyData.depthAll, PyData.depth] <;> omega
theorem dpAll_ints {K : PySem.W.Frag} {H : Hp} : ∀ (l : List Int), DpAll K H (l.map V.int) (l.map PyData.int)
  | [] => .nil
  | i :: r => .cons (.int i) (dpAll_ints r)
theorem eqvAll_ints : ∀ a b : List Int, PyData.eqvAll (a.map PyData.int) (b.map PyData.int) = decide (a = b)
  | [], [] => by simp [PyData.eqvAll]
  | [], y :: b => by simp [PyData.eqvAll]
  | x :: a, [] => by simp [PyData.eqvAll]
  | x :: a, y :: b => by
    simp only [List.map_cons, PyData.eqvAll, PyData.eqv, eqvAll_ints a b]
    by_cases h : x = y <;> by_cases h2 : a = b <;> simp [h, h2]
section
variable {X : Cx} {pins : List (Addr × Obj)} {σ : St} {H : Hp} {s : Shared} {A : Around}
theorem kt_cmp (I : Inv X pins σ H s) (hu : A.units + 64 < cLine) {u u' : Value} {v v' : V} {k k' : Int × List Int} (ru : RelV v u) (ru' : RelV v' u') (h : KeyT X.K H v k) (h' : KeyT X.K H v' k') :
    wpAny (model X.prog X.w) A (keyLt' (tuples' true) u u') (fun r s' => s' = s ∧ r = ltKT k k') (fun _ _ => False) s := by
  obtain ⟨t, c, rfl, ht, hc⟩ := h
  obtain ⟨t', c', rfl, ht', hc'⟩ := h'
  cases ru
  cases ru'
  obtain ⟨i1, r1, ⟨o1, ho1, hcl1, n1, hd1⟩, _⟩ := I.tuple ht
  obtain ⟨i2, r2, ⟨o2, ho2, hcl2, n2, hd2⟩, _⟩ := I.tuple ht'
  obtain ⟨a1, b1, rfl, ⟨ta, rfl⟩, rb⟩ := vals2 r1
  obtain ⟨a2, b2, rfl, ⟨tb, rfl⟩, rb'⟩ := vals2 r2
  obtain rfl : b1 = Value.ref c := rb
  obtain rfl : b2 = Value.ref c' := rb'
  refine PySem.W.kat_lt ho1 hd1 ho2 hd2 ?_
  show PySem.W.KatLex X.prog X.w A true (decide (2 < 2)) _ [(.int k.1 ta, .int k'.1 tb), (.ref c, .ref c')] 0 s
  unfold ltKT
  refine PySem.W.kat_cons (SeqAt.EqAt.int_int k.1 ta k'.1 tb X.prog X.w _ _ ?_)
  refine PySem.W.kat_go (fun e1 => ?_) (fun e1 => ?_)
  · have ex : k.1 = k'.1 := by simpa using e1
    rw [if_pos ex]
    obtain ⟨as, q1⟩ := Dp.reads I (.tuple (k.2.map .int)) (.ref c) (.ref c) (.tup hc (dpAll_ints _)) rfl
    obtain ⟨bs, q2⟩ := Dp.reads I (.tuple (k'.2.map .int)) (.ref c') (.ref c') (.tup hc' (dpAll_ints _)) rfl
    have cl : ∀ l : List Int, (PyData.tuple (l.map .int)).canLay0 = true := fun l => by simp [PyData.canLay0, can_intsD]
    have dl : ∀ l : List Int, (PyData.tuple (l.map .int)).depth ≤ 2 := fun l => by have := dep_intsD l; simp only [PyData.depth]; omega
    refine PySem.W.kat_yes (PySem.W.kat_cons (PySem.SeqAt.eqBoolOverData X.prog X.w A _ s _ _ _ _ as bs _ q1 q2 (cl _) (cl _) (by have := dl k.2; omega) ?_))
    have ev : PyData.eqv (.tuple (k.2.map .int)) (.tuple (k'.2.map .int)) = decide (k.2 = k'.2) := by
      simp only [PyData.eqv]
      exact eqvAll_ints _ _
    rw [ev]
    refine PySem.W.kat_go (fun e2 => ?_) (fun e2 => ?_)
    · have ey : k.2 = k'.2 := of_decide_eq_true e2
      rw [ey, lex_irrefl]
      exact PySem.W.kat_yes (PySem.W.kat_nil ⟨rfl, rfl⟩)
    · obtain ⟨j1, s1, p1, _⟩ := I.tuple hc
      obtain ⟨j2, s2, p2, _⟩ := I.tuple hc'
      have g1 : IntsAre j1.toArray.toList k.2 := intsAre_of s1
      have g2 : IntsAre j2.toArray.toList k'.2 := intsAre_of s2
      refine PySem.W.kat_no (PySem.W.kat_one _ _ (HT.lt_tupInts p1 p2 g1 g2 (by omega) ?_))
      exact (show s = s ∧ HT.lexLt k.2 k'.2 = HT.lexLt k.2 k'.2 from ⟨rfl, rfl⟩)
  · have ex : ¬ k.1 = k'.1 := by simpa using e1
    rw [if_neg ex]
    exact PySem.W.kat_no (oneLt_int ⟨rfl, rfl⟩)
/-- the kind of such keys -/
theorem kt_kind (I : Inv X pins σ H s) : ∀ {kv : List V} {ks : List Value} {kz : List (Int × List Int)}, Vals kv ks → Paired (KeyT X.K H) kv kz → ∃ fs, PySem.W.KatTups s.heap ks fs ∧ fs.length = ks.length ∧ ∀ v ∈ fs, ∃ i t, v = Value.int i t
  | _, _, _, .nil, .nil => ⟨[], .nil, rfl, fun v h => nomatch h⟩
  | _, _, _, .cons r rs, .cons h hs => by
    obtain ⟨t, c, rfl, ht, hc⟩ := h
    cases r
    obtain ⟨i1, r1, ⟨o1, ho1, hcl1, n1, hd1⟩, _⟩ := I.tuple ht
    obtain ⟨a1, b1, rfl, ⟨ta, rfl⟩, rb⟩ := vals2 r1
    obtain ⟨fs, q1, q2, q3⟩ := kt_kind I rs hs
    refine ⟨_ :: fs, .cons ho1 hcl1 hd1 (f := .int _ ta) rfl q1, by rw [List.length_cons, List.length_cons, q2], fun v hv => ?_⟩
    rcases List.mem_cons.mp hv with rfl | hv
    · exact ⟨_, _, rfl⟩
    · exact q3 v hv
theorem paired_mem {α β : Type} {F : α → β → Prop} : ∀ {l : List α} {m : List β}, Paired F l m → ∀ x ∈ l, ∃ y ∈ m, F x y
  | _, _, .cons h t, x, hx => by
    rcases List.mem_cons.mp hx with rfl | hx
    · exact ⟨_, List.mem_cons_self, h⟩
    · obtain ⟨y, hy, q⟩ := paired_mem t x hx
      exact ⟨y, List.mem_cons_of_mem _ hy, q⟩
theorem KeyT.inj (I : Inv X pins σ H s) {v : V} {k k' : Int × List Int} (h : KeyT X.K H v k) (h' : KeyT X.K H v k') : k = k' := by
  obtain ⟨t, c, rfl, ht, hc⟩ := h
  obtain ⟨t', c', e, ht', hc'⟩ := h'
  cases e
  have e1 := I.tuple_inj ht ht'
  cases k with | mk n l => cases k' with | mk n' l' =>
  simp only [List.cons.injEq, V.int.injEq, V.ref.injEq, and_true] at e1
  obtain ⟨rfl, rfl⟩ := e1
  have e2 := I.tuple_inj hc hc'
  have e3 : l = l' := by
    have : ∀ a b : List Int, a.map V.int = b.map V.int → a = b := fun a b h => (List.map_inj_right (fun x y h => by cases h; rfl)).mp h
    exact this _ _ e2
  rw [e3]
/-- the key of a value, by what stands -/
noncomputable def keyOfV (K : PySem.W.Frag) (H : Hp) (u : Value) : Int × List Int := by
  classical exact if h : ∃ k, KeyT K H (toV u) k then h.choose else (0, [])
theorem keyOfV_eq (I : Inv X pins σ H s) {v : V} {u : Value} {k : Int × List Int} (r : RelV v u) (h : KeyT X.K H v k) : keyOfV X.K H u = k := by
  unfold keyOfV
  have e : ∃ k, KeyT X.K H (toV u) k := ⟨k, by rw [toV_of r]; exact h⟩
  rw [dif_pos e]
  have q : ∀ x, x = v → KeyT X.K H x e.choose → e.choose = k := fun x hx q => KeyT.inj I (hx ▸ q) h
  exact q (toV u) (toV_of r) e.choose_spec
theorem kt_all (I : Inv X pins σ H s) (hu : A.units + 64 < cLine) {kv : List V} {ks : List Value} {kz : List (Int × List Int)} (r : Vals kv ks) (p : Paired (KeyT X.K H) kv kz) (h2 : 2 ≤ ks.length) :
    ∃ κ, (∀ (Q : SortKind → Shared → Prop) (E : Value → Shared → Prop), Q κ s → wpAny (model X.prog X.w) A (keyKind' ks.toArray) Q E s) ∧ Cmp X.prog X.w A s κ (fun p => p.1 ∈ ks) (lt2 fun u v => ltKT (keyOfV X.K H u) (keyOfV X.K H v)) := by
  refine ⟨tuples' true, fun Q E q => ?_, fun a b ha hb => ?_⟩
  · obtain ⟨fs, q1, q2, q3⟩ := kt_kind I r p
    refine PySem.W.kat_kind (T := .type "int") q1 (by omega) (fun f hm => ?_) (by rfl) ?_
    · obtain ⟨x, t, rfl⟩ := q3 f hm
      exact PySem.W.Looks.now
    · have e : (Value.type "int" != Value.type "tuple") = true := by first | decide +kernel | rfl | decide
      rw [e]
      exact q
  · have at_ : ∀ u ∈ ks, ∃ v k, RelV v u ∧ KeyT X.K H v k := fun u hu => by
      have hv := vals_mem r u hu
      have hm : toV u ∈ kv := by rw [vals_toV r]; exact List.mem_map.mpr ⟨u, hu, rfl⟩
      obtain ⟨k, _, q⟩ := paired_mem p _ hm
      exact ⟨_, k, hv, q⟩
    obtain ⟨v, k, r1, q1⟩ := at_ _ ha
    obtain ⟨v', k', r2, q2⟩ := at_ _ hb
    show wpAny _ _ (keyLt' (tuples' true) a.1 b.1) (fun r s' => s' = s ∧ r = ltKT (keyOfV X.K H a.1) (keyOfV X.K H b.1)) _ _
    rw [keyOfV_eq I r1 q1, keyOfV_eq I r2 q2]
    exact kt_cmp I hu r1 r2 q1 q2
end
end L2

-- part: SK4
namespace L2
open PySem PySem.Spec PyProof.Rows SrtO SrtQ
/-- the keys, one by one, then the items by their keys -/
def SortGo (K : PySem.W.Frag) (rel : V → Hp → VK → Prop) (xs : List V) (H1 : Hp) (Q : VK) : Prop := ∃ W : List V → Hp → Prop, W [] H1 ∧
  (∀ i v kv H', xs[i]? = some v → kv.length = i → W kv H' → rel v H' fun k H'' => W (kv ++ [k]) H'') ∧
  ∀ kv H', W kv H' → kv.length = xs.length →
    (∃ kz : List Int, kv = kz.map V.int ∧ ∀ zs : List (Int × V), zs.Perm (kz.zip xs) → zs.Pairwise (fun p q => p.1 ≤ q.1) → ∀ p, H' p = none → Q (.ref p) (upd H' p (.lst (zs.map (·.2))))) ∨
    (∃ kz : List (Int × List Int), Paired (KeyT K H') kv kz ∧ ∀ zs : List ((Int × List Int) × V), zs.Perm (kz.zip xs) → zs.Pairwise (fun p q => ltKT q.1 p.1 = false) → ∀ p, H' p = none → Q (.ref p) (upd H' p (.lst (zs.map (·.2)))))
/-- f is a key: what a call of it promises -/
def KeyRel (X : Cx) (P : List (Addr × Obj)) (f : Value) (rel : V → Hp → VK → Prop) : Prop := ∀ (pins : List (Addr × Obj)) (s : Shared) (σ : St) (H : Hp) (x : V) (u : Value) (Q : VK), (∀ p ∈ P, p ∈ pins) → Inv X pins σ H s → RelV x u → rel x H Q →
  wpAny (model X.prog X.w) X.A.in1.in1 (call f [u]) (EP X pins σ Q) (fun _ _ => False) s
theorem KeyRel.mono {X : Cx} {P P' : List (Addr × Obj)} {f : Value} {rel : V → Hp → VK → Prop} (h : KeyRel X P f rel) (hp : ∀ p ∈ P, p ∈ P') : KeyRel X P' f rel := fun pins s σ H x u Q z => h pins s σ H x u Q fun p q => z p (hp p q)
theorem nums_of {ks : List Value} {kz : List Int} (h : IntsAre ks kz) : ks.map numV = kz := by
  induction h with
  | nil => rfl
  | cons _ _ _ ih => rw [List.map_cons, ih]; rfl
theorem paired_len {α β : Type} {F : α → β → Prop} : ∀ {l : List α} {m : List β}, Paired F l m → l.length = m.length
  | _, _, .nil => rfl
  | _, _, .cons _ t => by rw [List.length_cons, List.length_cons, paired_len t]
theorem vals_at : ∀ {xs : List V} {us : List Value}, xs.length = us.length → (∀ (j : Nat) (u : Value), us[j]? = some u → ∃ x, xs[j]? = some x ∧ RelV x u) → Vals xs us
  | [], [], _, _ => .nil
  | [], _ :: _, h, _ => by simp at h
  | _ :: _, [], h, _ => by simp at h
  | x :: xs, u :: us, h, q => by
    obtain ⟨x', e, r⟩ := q 0 u rfl
    cases e
    exact .cons r (vals_at (by simpa using h) fun j u' hu => q (j + 1) u' hu)
section
variable {X : Cx} {pins : List (Addr × Obj)} {σ : St} {H : Hp} {s : Shared} {f : Value} {its : List Value} {xs : List V} {Q : VK} {rel : V → Hp → VK → Prop}
theorem keys_of {H' : Hp} {s' : Shared} (I : Inv X pins σ H' s') : ∀ {kv : List V} {ks : List Value} {kz : List (Int × List Int)}, Vals kv ks → Paired (KeyT X.K H') kv kz → ks.map (keyOfV X.K H') = kz
  | _, _, _, .nil, .nil => rfl
  | _, _, _, .cons r rs, .cons h hs => by rw [List.map_cons, keyOfV_eq I r h, keys_of I rs hs]
theorem sort_go {E : Value → Shared → Prop} {Z : PySem.Fin → Shared → Prop} (hu : X.A.units + 100 < cLine) (I : Inv X pins σ H s) (rv : Vals xs its) (hz : its.length ≤ sizeLine) (g : SortGo X.K rel xs H Q) (hf : KeyRel X pins f rel)
    (ht : ∀ a : Addr, Builtin.«list.sort» ⟨[.ref a], [(Str.ofString "key", f)]⟩ = ksk_tree a f false) (hZ : ∀ v s', EP X pins σ Q v s' → Z (.done (.ret v)) s') :
    wpAny (model X.prog X.w) X.A.in1 (sortRest its [(Str.ofString "key", f)]) Z E s := by
  obtain ⟨W, w0, w1, w2⟩ := g
  refine sort_part I rv hz W w0 ht (fun a => ksk_l1 _ _) (fun pins' s' H' i x u kv hp I' rx hx hl wk => ?_) (fun pins kv ks H' s' I' rk wk hl => ?_) hZ
  · refine wpAny_mono (hf pins' s' σ H' x u _ hp I' rx (w1 i x kv H' hx hl wk)) (fun k s'' ⟨kx, H'', a, b, c⟩ => ⟨kx, H'', b, a, c⟩) fun _ _ e => e
  · have lk : ks.length = its.length := by rw [← rk.length, hl, rv.length]
    rcases w2 kv H' wk hl with ⟨kz, rfl, q⟩ | ⟨kz, pk, q⟩
    · have ik := intsAre_of rk
      refine ⟨fun u v => decide (numV u < numV v), swo_of numV swo_int, fun h2 => ints_kind ik (by omega), fun ps g p hp => ?_⟩
      have e1 : (ps.map fun z => (numV z.1, toV z.2)).Perm (kz.zip xs) := by
        have q := g.2.map fun z : Value × Value => (numV z.1, toV z.2)
        have e : (ks.zip its).map (fun z : Value × Value => (numV z.1, toV z.2)) = kz.zip xs := by
          rw [vals_toV rv, ← nums_of ik, List.zip_map]
          rfl
        rw [e] at q
        exact q
      have e2 : (ps.map fun z => (numV z.1, toV z.2)).Pairwise (fun p q => p.1 ≤ q.1) := by
        refine List.pairwise_map.mpr (g.1.imp fun h => ?_)
        have := of_decide_eq_false h
        show numV _ ≤ numV _
        omega
      have z := q _ e1 e2 p hp
      rw [List.map_map] at z
      exact z
    · refine ⟨fun u v => ltKT (keyOfV X.K H' u) (keyOfV X.K H' v), swo_of (keyOfV X.K H') swo_KT, fun h2 => kt_all I' (by show X.A.units + 1 + 1 + 64 < _; omega) rk pk (by omega), fun ps g p hp => ?_⟩
      have e1 : (ps.map fun z => (keyOfV X.K H' z.1, toV z.2)).Perm (kz.zip xs) := by
        have q := g.2.map fun z : Value × Value => (keyOfV X.K H' z.1, toV z.2)
        have e : (ks.zip its).map (fun z : Value × Value => (keyOfV X.K H' z.1, toV z.2)) = kz.zip xs := by
          rw [vals_toV rv, ← keys_of I' rk pk, List.zip_map]
          rfl
        rw [e] at q
        exact q
      have e2 : (ps.map fun z => (keyOfV X.K H' z.1, toV z.2)).Pairwise (fun p q => ltKT q.1 p.1 = false) := List.pairwise_map.mpr (g.1.imp fun h => h)
      have z := q _ e1 e2 p hp
      rw [List.map_map] at z
      exact z
/-- the key's function: what the expression gives -/
def KeyOf (X : Cx) (ke : Expr) (f : Value) : Prop := ∀ (pins : List (Addr × Obj)) (s : Shared) (σ : St) (H : Hp) (R : Value → Shared → Prop), Inv X pins σ H s → R f s → wpAny (model X.prog X.w) X.A (eval ke X.env) R X.xe s
theorem key_abs {p : Pos} (hg : Gl X "abs") (hm : X.mg "abs" = none) : KeyOf X (.Name "abs" p) (.builtin "abs") := fun pins s σ H R I h => ld_blt I hg hm (by decide +kernel) h (by decide)
theorem key_def {x : Str} {p : Pos} {q : Addr} (hg : Gl X x) (hm : X.mg x = some (.ref q)) (hd : (x == ("__debug__" : Str)) = false := by decide) : KeyOf X (.Name x p) (.ref q) := fun pins s σ H R I h => ld_glob I hg hm h hd
theorem rel_abs {P : List (Addr × Obj)} : KeyRel X P (.builtin "abs") (fun x H Q => ∃ i, x = .int i ∧ Q (.int (if i < 0 then -i else i)) H) := by
  intro pins s σ H x u Q _ I r h
  obtain ⟨i, rfl, q⟩ := h
  obtain ⟨t, rfl⟩ := r
  exact call_abs_int fun u tk => ⟨.int (if i < 0 then -i else i), H, I.tok _, ⟨_, rfl⟩, q⟩
theorem rel_def {P : List (Addr × Obj)} {k : Nat} {q : Addr} {fd : FuncData} {x : Str} {sp : Sp} (F : FnOk X.prog X.w X.K X.mg X.base CX0 k q fd [x] sp) (hr : Room (k + 2) X.A) (hb : Binds X.K fd [x] []) : KeyRel X P (.ref q) (fun x H Q => sp [x] H Q E0) := by
  intro pins s σ H x u Q _ I r h
  have hl : ([u] ++ ([] : List Value)).length = 1 := rfl
  refine wpAny_call (codeAny_mono (F.run X.A.in1.in1 X.stack s H ⟨[u], []⟩ [u] [x] Q E0 hr.in1.in1 I.env0.in1.in1 (by have := hb s [u] I.kIn (by rfl); exact this) (.cons r .nil) h) fun r s' hq => ?_)
  cases r with
  | error e => exact hq.elim
  | ok fl =>
    cases fl with
    | ret u => exact I.after hq
    | next => exact False.elim hq
    | brk => exact False.elim hq
    | cont => exact False.elim hq
/-! ### sorted(e, key=ke) -/
/-- of a list; of a dict with ints and texts as keys; of one with tuples -/
def rSortL (K : PySem.W.Frag) (rel : V → Hp → VK → Prop) : V → Hp → VK → Prop := fun x H Q => ∃ a xs, x = .ref a ∧ SqL K H a xs ∧ SortGo K rel xs H Q
def rSortD (K : PySem.W.Frag) (rel : V → Hp → VK → Prop) : V → Hp → VK → Prop := fun x H Q => ∃ a kvs, x = .ref a ∧ Rd H a (.dK kvs) ∧ SortGo K rel (kvs.map fun z => kV z.1) H Q
def rSortTd (K : PySem.W.Frag) (rel : V → Hp → VK → Prop) : V → Hp → VK → Prop := fun x H Q => ∃ a kvs, x = .ref a ∧ Rd H a (.dT kvs) ∧ ∀ bs, IsKeys H kvs bs → SortGo K rel (bs.map V.ref) H Q
def tSorted (r : V → Hp → VK → Prop) (t : TA) : TE := fun σ H Q => t σ H fun vs H1 => ∃ x, vs = [x] ∧ r x H1 Q
def RunS (X : Cx) (P : List (Addr × Obj)) (f : Value) (r : V → Hp → VK → Prop) : Prop := ∀ (pins : List (Addr × Obj)) (s : Shared) (σ : St) (H : Hp) (x : V) (u : Value) (Q : VK), (∀ p ∈ P, p ∈ pins) → Inv X pins σ H s → RelV x u → r x H Q →
  wpAny (model X.prog X.w) X.A (call (.builtin "sorted") [u] [(Str.ofString "key", f)]) (EP X pins σ Q) X.xe s
theorem pe_sorted {e ke : Expr} {t : TA} {p pos kpos : Pos} {r : V → Hp → VK → Prop} (run : RunS X [] f r) (hk : KeyOf X ke f) (hg : Gl X "sorted") (hm : X.mg "sorted" = none) (ha : PA X [e] t)
    (h1 : backTo pos (starEach [e] X.env) = (false, eval e X.env) :: backTo pos (starEach [] X.env) := by rfl) (hpl : (backTo pos (starEach [e] X.env)).any (·.1) = false := by rfl)
    (hall : (backToKw pos (keywordEach [⟨some "key", ke, kpos⟩] X.env)).all (·.1.isSome) = true := by rfl) (hnone : (backToKw pos (keywordEach [⟨some "key", ke, kpos⟩] X.env)).any (·.1.isNone) = false := by rfl) :
    PE X (.Call (.Name "sorted" p) [e] [⟨some "key", ke, kpos⟩] pos) (tSorted r t) := by
  refine ⟨fun pins s σ H Q I h => ?_⟩
  refine wpAny_Call_Name_kw (ld_blt I hg hm (u := .builtin "sorted") (by decide +kernel) ?_ (by decide))
  refine PyProof.Rows.callWith_kw (thn (ha.run pos pins s σ H _ I h) fun us s1 ⟨vs, H1, I1, r1, x, ex, q1⟩ => ?_) h1 hpl hall hnone
  subst ex
  obtain ⟨u, rfl, ru⟩ := vals1 r1
  show wpAny _ _ (evalAll ((do let v ← eval ke X.env; standAt pos; pure v) :: [])) _ _ s1
  refine wpAny_evalAll_cons (wpAny_bind (hk pins s1 σ H1 _ I1 (wpAny_bind (wpAny_standAt (wpAny_pure ?_)))))
  refine wpAny_evalAll_nil ?_
  exact run pins s1 σ H1 x u Q (fun _ z => nomatch z) I1 ru q1
theorem run_list {P : List (Addr × Obj)} (hu : X.A.units + 100 < cLine) (hf : KeyRel X P f rel) (ht : ∀ a : Addr, Builtin.«list.sort» ⟨[.ref a], [(Str.ofString "key", f)]⟩ = ksk_tree a f false) : RunS X P f (rSortL X.K rel) := by
  intro pins s σ H x u Q hP I r h
  obtain ⟨a, xs, rfl, hs, g⟩ := h
  cases r
  obtain ⟨its, rv, hl, hz⟩ := I.list hs
  have hz' : its.length ≤ sizeLine := by rw [← rv.length]; exact hz
  refine call_function_entry_kw kind_sorted plain_sorted entry_sorted (ksk_s1 _ _) ?_
  unfold Builtin.«sorted»
  refine wpAny_bind (m := checkCount "sorted" 1 1 _) (wpAny_pure ?_)
  refine wpAny_bind (collect_list hl.isList ?_ hz')
  have I1 : Inv X pins σ H { s with heap := (s.heap.push (seqObj "list" #[] 0)).update s.heap.objs.size (Obj.mapSeq (· ++ its.toArray)) } := I.kept (t' := s.toks) fun b o e => by
    rw [Heap.get?_update_ne _ _ _ _ (Nat.ne_of_lt (Heap.lt_size e))]
    exact Heap.get?_push_of_some _ e
  exact sort_go hu I1 rv hz' g (hf.mono hP) ht fun v s' h => ⟨v, rfl, h⟩
theorem run_dict {P : List (Addr × Obj)} (hcalm : X.calm = true) (hu : X.A.units + 100 < cLine) (hf : KeyRel X P f rel) (ht : ∀ a : Addr, Builtin.«list.sort» ⟨[.ref a], [(Str.ofString "key", f)]⟩ = ksk_tree a f false) : RunS X P f (rSortD X.K rel) := by
  intro pins s σ H x u Q hP I r h
  obtain ⟨a, kvs, rfl, hd, g⟩ := h
  cases r
  obtain ⟨z, lo, vs, rel', dd⟩ := dk_rd I.hok hd
  obtain ⟨ep, hat⟩ := dd.dictAt
  have hkeys : vs.map (·.1) = kvs.map (·.1) := rel'.keys.symm
  have hl : vs.length = kvs.length := by
    have e := congrArg List.length hkeys
    rw [List.length_map, List.length_map] at e
    exact e
  refine call_function_entry_kw kind_sorted plain_sorted entry_sorted (ksk_s1 _ _) ?_
  unfold Builtin.«sorted»
  refine wpAny_bind (m := checkCount "sorted" 1 1 _) (wpAny_pure ?_)
  refine wpAny_bind (PySem.W.kdu_collect (A := X.A.in1) (PySem.W.kdl_dict (knd := mixKind X.prog X.w) (kvs := vs) (ep := ep) lo) (I.ok.hd hcalm) hat (by rw [hl]; exact z) fun h' tk acc hk hacc => ?_)
  have hal : acc.toList.length = kvs.length := by rw [Array.length_toList, hacc.1, hl]
  have rv : Vals (kvs.map fun z => kV z.1) acc.toList := vals_at (by rw [List.length_map, hal]) fun j v e => by
    obtain ⟨k, x, e1, e2⟩ := hacc.2 j v (by rw [← Array.getElem?_toList]; exact e)
    have e3 : (vs.map (·.1))[j]? = some k := by rw [List.getElem?_map, e1]; rfl
    rw [hkeys, List.getElem?_map] at e3
    rw [List.getElem?_map]
    cases e4 : kvs[j]? with
    | none => rw [e4] at e3; cases e3
    | some y =>
      rw [e4] at e3
      have e5 : y.1 = k := Option.some.inj e3
      refine ⟨kV y.1, rfl, ?_⟩
      rw [e5]
      exact keyIs_rel e2
  have I1 : Inv X pins σ H { s with heap := h', toks := tk } := I.kept hk
  exact sort_go hu I1 rv (by rw [hal]; exact z) g (hf.mono hP) ht fun v s' h => ⟨v, rfl, h⟩
theorem run_dictT {P : List (Addr × Obj)} (hcalm : X.calm = true) (hu : X.A.units + 100 < cLine) (hf : KeyRel X P f rel) (ht : ∀ a : Addr, Builtin.«list.sort» ⟨[.ref a], [(Str.ofString "key", f)]⟩ = ksk_tree a f false) : RunS X P f (rSortTd X.K rel) := by
  intro pins s σ H x u Q hP I r h
  obtain ⟨d, kvs, rfl, hd, g⟩ := h
  cases r
  obtain ⟨z, hs, ks, pr, o, es, ep, ho, hx, hdt, he, hn⟩ := (show ObjOk X.prog X.w H s.heap d (.dT kvs) from hd.ok I.hok)
  have l1 : es.size = ks.length := size_of_entries he
  have l2 : kvs.length = ks.length := Paired.length pr
  refine call_function_entry_kw kind_sorted plain_sorted entry_sorted (ksk_s1 _ _) ?_
  unfold Builtin.«sorted»
  refine wpAny_bind (m := checkCount "sorted" 1 1 _) (wpAny_pure ?_)
  refine wpAny_bind (PySem.W.kdu_collect (A := X.A.in1) (kdl_raw hs hx hdt) (I.ok.hd hcalm) ho (by omega) fun h' tk acc' kp it => ?_)
  have ea : acc'.toList = ks.map fun x => Value.ref x.2.1 := by
    have hl : acc'.toList.length = ks.length := by rw [Array.length_toList, it.1]; exact l1
    apply List.ext_getElem?
    intro j
    rw [List.getElem?_map]
    cases hj : acc'.toList[j]? with
    | none =>
      have h1 := List.getElem?_eq_none_iff.mp hj
      rw [List.getElem?_eq_none (by omega)]
      all_goals rfl
    | some v =>
      obtain ⟨en, hen, hv⟩ := it.2 j v (by rw [← Array.getElem?_toList]; exact hj)
      have qe := entry_at he j
      rw [hen] at qe
      cases hb : ks[j]? with
      | none =>
        rw [hb] at qe
        exact nomatch (show some en = none from qe)
      | some b =>
        rw [hb] at qe
        have e2 : en = entryOfKey (tupleKind (mixKind X.prog X.w)) b := Option.some.inj qe
        rw [hv, e2]
        all_goals rfl
  have eb : acc'.toList = (ks.map fun x => x.2.1).map Value.ref := by rw [ea, List.map_map]; all_goals rfl
  have rv : Vals ((ks.map fun x => x.2.1).map V.ref) acc'.toList := by rw [eb]; exact vals_refs _
  have I1 : Inv X pins σ H { s with heap := h', toks := tk } := I.kept kp
  exact sort_go hu I1 rv (by rw [ea, List.length_map]; omega) (g _ (isKeys_of pr)) (hf.mono hP) ht fun v s' h => ⟨v, rfl, h⟩
end
end L2

-- part: SK5
namespace L2
open PySem PySem.Spec PyProof.Rows SrtO SrtQ LamX
section
variable {X : Cx} {pins : List (Addr × Obj)} {σ : St} {H : Hp} {s : Shared} {xs : List V} {Q : VK}
abbrev lamQ (X : Cx) : Str := X.env.qual ++ "<lambda>"
/-- a lambda of one parameter, no captured names: its call -/
theorem rel_lam {k : Nat} {f c' : Addr} {x : Str} {params : Arguments} {body : Expr} {scope : Scope} {pm ctv : Value} {tb : TE} (S : FnScope [x] [x] scope) (hr : Room (k + 3) X.A)
    (hbind : ∀ u : Value, bindArgs (PySem.W.kla_fn "<lambda>" (lamQ X) params body scope [] pm (.ref c') ctv) ⟨[u], []⟩ = pure [(x, u)])
    (hbody : ∀ (A : Around) (outer : List Env) (s : Shared) (H : Hp), Room k (A.deeper (envOfC (lamQ X) scope s.heap.objs.size f (.ref c'))) → PE (cxOf CX0 X.prog X.w X.K X.mg X.base [x] (lamQ X) scope f (.ref c') A outer s H E0) body tb) :
    KeyRel X [(f, PySem.W.kla_obj "<lambda>" (lamQ X) params body scope [] pm c' ctv)] (.ref f) (fun v H Q => H c' = some (CodeO c' (lamQ X)) ∧ tb [some v] H Q) := by
  intro pins s σ H v u Q hP I r ⟨hc, ht⟩
  have hf : s.heap.get? f = some (PySem.W.kla_obj "<lambda>" (lamQ X) params body scope [] pm c' ctv) := (I.pin _ (List.mem_append_right _ (hP _ List.mem_cons_self))).1
  obtain ⟨⟨oc, vs, t, hoc, hdc, hvc⟩, _, _⟩ := I.hok c' _ hc
  have hr2 : Room (k + 1) X.A.in1.in1 := hr.in1.in1
  have rc : codeAny (model X.prog X.w) X.A.in1.in1 (.call (.ref f) ⟨[u], []⟩) (CR CX0 X.stack X.prog X.w H s Q E0) s := by
    refine PySem.W.kla_callFunE hr2.depth hf rfl S.co S.gen rfl ⟨c', oc, vs, t, rfl, hoc, hdc, hvc⟩ ?_
    rw [hbind]
    have hkind : ∀ y ∈ [x].zip [u], scope.names.lookup y.1 = some .local ∨ (scope.names.lookup y.1 = some .cell ∧ ((cellsFrom (s.heap.objs.size + 1) scope.names []).lookup y.1).isSome = true) := fun ⟨n, v⟩ hy => by
      rcases S.par n (List.of_mem_zip hy).1 with q | q
      · exact .inl q
      · exact .inr ⟨q, PySem.W.cellsFrom_some _ _ _ (.inl q)⟩
    refine wpAny_pure (wpAny_newFunctionEnv_cells S.kind hkind fun env he s1 z => ?_)
    subst he
    refine ⟨I.nolimit.keeps z.toInCall.keep, ?_⟩
    have J : Inv (cxOf CX0 X.prog X.w X.K X.mg X.base [x] (lamQ X) scope f (.ref c') X.A.in1.in1 X.stack s H E0) [] (start [x] [v]) H s1 := inv_start S hr2.hd I.env0.in1.in1 rfl (.cons r .nil) z
    refine PySem.W.kla_codeExpr (wpAny_mono ((hbody _ _ s H (hr2.deeper _)).run [] _ _ H Q J ht) (fun v' s' hq => ?_) fun e s' hq => hq)
    obtain ⟨w', H', J', rv, q⟩ := hq
    exact ⟨w', H', J'.os, J'.bare, J'.base, J'.hok, rv, q⟩
  refine wpAny_call (codeAny_mono rc fun r s' hq => ?_)
  cases r with
  | error e => exact hq.elim
  | ok fl =>
    cases fl with
    | ret u => exact I.after hq
    | next => exact False.elim hq
    | brk => exact False.elim hq
    | cont => exact False.elim hq
/-- sorted(e, key=lambda x: body) -/
def tSortedLam (X : Cx) (T : List (Addr × Str)) (r : Addr → V → Hp → VK → Prop) (t : TA) : TE := fun σ H Q => t σ H fun vs H1 => ∃ x, vs = [x] ∧ Tabs T H1 ∧ ∀ c' H2, ExtN H1 H2 → Tabs T H2 → H2 c' = some (CodeO c' (lamQ X)) → r c' x H2 Q
theorem pe_sortedLam {e : Expr} {t : TA} {p pos kpos lpos : Pos} {r : Addr → V → Hp → VK → Prop} {T : List (Addr × Str)} {c P : Addr} {params : Arguments} {body : Expr} {scope : Scope}
    (run : ∀ (f c' : Addr) (pm ctv : Value), RunS X [(f, PySem.W.kla_obj "<lambda>" (lamQ X) params body scope [] pm c' ctv)] (.ref f) (r c')) (TB : TabB X.base X.mg c P) (hcode : X.env.code = .ref c)
    (hT : (P, lamQ X) ∈ T) (hu : ∀ p ∈ T, p.1 = P → p.2 = lamQ X) (hcl : cloFrom X.env.cells scope.names [] = []) (hfree : ∀ y ∈ scope.names, y.2 ≠ .free)
    (hg : Gl X "sorted") (hm : X.mg "sorted" = none) (ha : PA X [e] t) (hdef : defaultsOf params X.env = ([], []) := by rfl)
    (h1 : backTo pos (starEach [e] X.env) = (false, eval e X.env) :: backTo pos (starEach [] X.env) := by rfl) (hpl : (backTo pos (starEach [e] X.env)).any (·.1) = false := by rfl)
    (hall : (backToKw pos (keywordEach [⟨some "key", .Lambda params body scope lpos, kpos⟩] X.env)).all (·.1.isSome) = true := by rfl) (hnone : (backToKw pos (keywordEach [⟨some "key", .Lambda params body scope lpos, kpos⟩] X.env)).any (·.1.isNone) = false := by rfl) :
    PE X (.Call (.Name "sorted" p) [e] [⟨some "key", .Lambda params body scope lpos, kpos⟩] pos) (tSortedLam X T r t) := by
  refine ⟨fun pins s σ H Q I h => ?_⟩
  refine wpAny_Call_Name_kw (ld_blt I hg hm (u := .builtin "sorted") (by decide +kernel) ?_ (by decide))
  refine PyProof.Rows.callWith_kw (thn (ha.run pos pins s σ H _ I h) fun us s1 ⟨vs, H1, I1, r1, x, ex, hTab, q1⟩ => ?_) h1 hpl hall hnone
  subst ex
  obtain ⟨u, rfl, ru⟩ := vals1 r1
  show wpAny _ _ (evalAll ((do let v ← eval (.Lambda params body scope lpos) X.env; standAt pos; pure v) :: [])) _ _ s1
  refine wpAny_evalAll_cons (wpAny_bind (lam_make2 I1 TB hcode hT hu hTab hdef (fun y hy e => absurd e (hfree y hy)) fun f c' pm ctv H2 s2 I2 e2 t2 hf nf nfr hc => wpAny_bind (wpAny_standAt (wpAny_pure ?_))))
  refine wpAny_evalAll_nil ?_
  rw [hcl] at hf
  have nL : f ≠ X.env.locals := fun z => by
    obtain ⟨m, ⟨o, es, ep, ho, hd, _⟩, _⟩ := I2.loc
    rw [z, ho] at hf; cases hf
    cases hd
  have nF : f ∉ X.fs := fun z => nfr (by
    rcases I2.ok.stk with e | ⟨e, hfr⟩
    · rw [e]; exact z
    · rw [e]
      show f ∈ frs (X.env :: X.outer)
      unfold frs
      rw [List.filterMap_cons, hfr]
      exact List.mem_cons_of_mem _ z)
  have I3 : Inv X ((f, PySem.W.kla_obj "<lambda>" (lamQ X) params body scope [] pm c' ctv) :: pins) σ H2 s2 := I2.pins_of fun p hp => by
    rcases List.mem_cons.mp hp with rfl | hp
    · exact ⟨hf, nf, nL, nF, fun v z => by cases z⟩
    · exact I2.pin p (List.mem_append_right _ hp)
  refine thn (run f c' pm ctv _ s2 σ H2 x u Q (fun p hp => by rw [List.mem_singleton.mp hp]; exact List.mem_cons_self) I3 ru (q1 c' H2 e2 t2 hc)) fun v s3 ⟨y, H3, I4, r4, q4⟩ => ?_
  exact ⟨y, H3, I4.pins_of fun p hp => I4.pin p (List.mem_append_right _ (List.mem_cons_of_mem _ hp)), r4, q4⟩
end
end L2

-- part: TY1
namespace L2
open PySem PySem.Spec PyProof.Rows
/-- the built-in classes that are compared -/
def Kn (n : String) : Prop := n = "int" ∨ n = "str" ∨ n = "bool" ∨ n = "NoneType" ∨ n = "list" ∨ n = "tuple" ∨ n = "dict" ∨ n = "bytes"
theorem Kn.is {n : String} (h : Kn n) (s : Shared) : s.TypeIs (.type n) "type" := by
  rcases h with rfl | rfl | rfl | rfl | rfl | rfl | rfl | rfl
  · exact TypeEq.meta_int s
  · exact TypeEq.meta_str s
  · exact TypeEq.meta_bool s
  · exact TypeEq.meta_NoneType s
  · exact TypeEq.meta_list s
  · exact TypeEq.meta_tuple s
  · exact TypeEq.meta_dict s
  · exact TypeEq.meta_bytes s
theorem Kn.ty {K : PySem.W.Frag} {H : Hp} {x : V} {T : String} (t : TyB K H x T) : Kn T := by cases t <;> simp [Kn]
theorem eqAt_ty {a b : String} (ha : Kn a) (hb : Kn b) (A : Around) (s : Shared) : SeqAt.EqAt A s (.type a) (.type b) (decide (a = b)) := by
  intro prog w E Q q
  by_cases e : a = b
  · subst e
    rw [decide_eq_true rfl] at q
    unfold eqBool
    refine wpAny_holding ?_
    rw [if_pos (by simp)]
    exact wpAny_bind (wpAny_rule (wpAny_pure q))
  · rw [decide_eq_false e] at q
    have hb' : (Value.type a == Value.type b) = false := by rw [ty_beq]; exact decide_eq_false e
    unfold eqBool
    refine wpAny_holding ?_
    rw [if_neg (by rw [hb']; decide)]
    refine wpAny_bind (wpAny_mono (TypeEq.eq_type_other (fun s' => ha.is s') (fun s' => hb.is s') hb' (Q := fun v s' => v = .bool false ∧ Q false s') ⟨rfl, q⟩) (fun v s' hv => ?_) fun _ _ x => x)
    obtain ⟨rfl, q⟩ := hv
    exact wpAny_truthy_bool q
section
variable {X : Cx}
theorem op_eqTy : OpR X (compareOp .Eq) (fun x y H Q => ∃ a b, x = .ty a ∧ y = .ty b ∧ Kn a ∧ Kn b ∧ Q (.bl (decide (a = b))) H) := by
  intro pins s σ H x y v u Q I rx ry h
  obtain ⟨a, b, rfl, rfl, ka, kb, q⟩ := h
  cases rx
  cases ry
  by_cases e : a = b
  · subst e
    rw [decide_eq_true rfl] at q
    exact TypeEq.eq_type_same (fun s' => ka.is s') ⟨.bl true, H, I, rfl, q⟩
  · rw [decide_eq_false e] at q
    exact TypeEq.eq_type_other (fun s' => ka.is s') (fun s' => kb.is s') (by rw [ty_beq]; exact decide_eq_false e) ⟨.bl false, H, I, rfl, q⟩
theorem op_neTy : OpR X (compareOp .NotEq) (fun x y H Q => False) := fun _ _ _ _ _ _ _ _ _ _ _ _ h => h.elim
theorem vals_tys : ∀ {bs : List String} {us : List Value}, Vals (bs.map V.ty) us → us = bs.map Value.type
  | [], _, .nil => rfl
  | b :: bs, _, .cons r t => by
    cases r
    rw [vals_tys t]; rfl
theorem op_inTy : OpR X (compareOp .In) (fun x y H Q => ∃ (a : String) (p : Addr) (bs : List String), x = .ty a ∧ y = .ref p ∧ SqT X.K H p (bs.map V.ty) ∧ Kn a ∧ (∀ b ∈ bs, Kn b) ∧ Q (.bl (bs.contains a)) H) := by
  intro pins s σ H x y v u Q I rx ry h
  obtain ⟨a, p, bs, rfl, rfl, hq, ka, kb, q⟩ := h
  cases rx
  cases ry
  obtain ⟨its, r, pl, hz⟩ := I.tuple hq
  have e := vals_tys r
  subst e
  refine SeqAt.in_tupleAt (fun y => match y with | .type n => decide (n = a) | _ => false) pl (fun y hy => ?_) ⟨.bl _, H, I, rfl, ?_⟩
  · have hy' : y ∈ bs.map Value.type := by simpa using hy
    obtain ⟨b, hb, rfl⟩ := List.mem_map.mp hy'
    exact eqAt_ty (kb b hb) ka _ _
  · have e2 : ((bs.map Value.type).toArray.any fun y => match y with | .type n => decide (n = a) | _ => false) = bs.contains a := by
      rw [List.any_toArray, List.any_map]
      rw [List.contains_eq_any_beq]
      congr 1
      funext n
      show decide (n = a) = (a == n)
      by_cases h : n = a
      · simp [h]
      · rw [decide_eq_false h]
        exact (beq_eq_false_iff_ne.mpr (Ne.symm h)).symm
    rw [e2]
    exact q
end
/-- walked as this or as that -/
def iOr (w1 w2 : TI) : TI := fun σ H R => w1 σ H R ∨ w2 σ H R
theorem pi_or {X : Cx} {tg it : Expr} {w1 w2 : TI} (h1 : PI X tg it w1) (h2 : PI X tg it w2) : PI X tg it (iOr w1 w2) :=
  ⟨fun pins s σ H R I h => h.elim (fun h => h1.run pins s σ H R I h) fun h => h2.run pins s σ H R I h⟩
end L2

-- part: G1
namespace Toy
open PySem L2
/-! ### letters and clauses -/
def absI (i : Int) : Int := if i < 0 then -i else i
theorem absI_nat (i : Int) : absI i = (i.natAbs : Int) := by unfold absI; split <;> omega
/-- the clause of a row: rising by truths, the same letters -/
structure IsCl (row c : List Int) : Prop where
  inc : c.Pairwise fun a b => a.natAbs < b.natAbs
  mem : ∀ x, x ∈ c ↔ x ∈ row
structure RowOk (t : Int) (row : List Int) : Prop where
  low : ∀ x ∈ row, 1 ≤ x.natAbs
  top : ∀ x ∈ row, (x.natAbs : Int) ≤ t
  one : ∀ x ∈ row, -x ∉ row
theorem inc_ext : ∀ {c d : List Int}, c.Pairwise (fun a b => a.natAbs < b.natAbs) → d.Pairwise (fun a b => a.natAbs < b.natAbs) → (∀ x, x ∈ c ↔ x ∈ d) → c = d
  | [], [], _, _, _ => rfl
  | [], y :: d, _, _, h => absurd ((h y).mpr List.mem_cons_self) (by simp)
  | x :: c, [], _, _, h => absurd ((h x).mp List.mem_cons_self) (by simp)
  | x :: c, y :: d, hc, hd, h => by
    have c1 := List.pairwise_cons.mp hc
    have d1 := List.pairwise_cons.mp hd
    have e : x = y := by
      rcases List.mem_cons.mp ((h x).mp List.mem_cons_self) with e | hx
      · exact e
      · rcases List.mem_cons.mp ((h y).mpr List.mem_cons_self) with e | hy
        · exact e.symm
        · have a1 := d1.1 x hx
          have a2 := c1.1 y hy
          omega
    subst e
    have nx : x ∉ c := fun z => by have := c1.1 x z; omega
    have ny : x ∉ d := fun z => by have := d1.1 x z; omega
    rw [inc_ext c1.2 d1.2 fun z => ⟨fun hz => (List.mem_cons.mp ((h z).mp (List.mem_cons_of_mem _ hz))).resolve_left fun e => nx (e ▸ hz), fun hz => (List.mem_cons.mp ((h z).mpr (List.mem_cons_of_mem _ hz))).resolve_left fun e => ny (e ▸ hz)⟩]
theorem IsCl.ext {row row' c c' : List Int} (h : IsCl row c) (h' : IsCl row' c') (e : ∀ x, x ∈ row ↔ x ∈ row') : c = c' :=
  inc_ext h.inc h'.inc fun x => (h.mem x).trans ((e x).trans (h'.mem x).symm)
/-- ints unlike by their truths, in order -/
theorem strict_of {ks out : List Int} (p : out.Perm ks) (nd : ks.Nodup) (one : ∀ x ∈ ks, -x ∉ ks) (low : ∀ x ∈ ks, 1 ≤ x.natAbs) (h : out.Pairwise fun a b => absI a ≤ absI b) : out.Pairwise fun a b => a.natAbs < b.natAbs := by
  have nd' : out.Nodup := p.nodup_iff.mpr nd
  have hm : ∀ x ∈ out, x ∈ ks := fun x hx => p.mem_iff.mp hx
  have q := h.imp_of_mem (S := fun a b => a ≠ b → a.natAbs < b.natAbs) fun {a b} ha hb hab ne => by
    rw [absI_nat, absI_nat] at hab
    have h1 := one a (hm a ha)
    have h2 := low a (hm a ha)
    have h3 : b ≠ -a := fun e => h1 (by rw [← e]; exact hm b hb)
    omega
  exact (q.and nd').imp fun h => h.1 h.2
section
variable {X : Cx} {H : Hp} {Q : VK}
/-- sorted by the truths -/
theorem go_abs {K : PySem.W.Frag} {ks : List Int} (q : ∀ (out : List Int) (p : Addr), out.Perm ks → out.Pairwise (fun a b => absI a ≤ absI b) → H p = none → Q (.ref p) (upd H p (.lst (out.map V.int)))) :
    SortGo K (fun x H Q => ∃ i, x = .int i ∧ Q (.int (if i < 0 then -i else i)) H) (ks.map V.int) H Q := by
  refine ⟨fun kv H' => H' = H ∧ kv = (ks.take kv.length).map fun i => V.int (absI i), ⟨rfl, by simp⟩, ?_, ?_⟩
  · rintro i v kv H' hi hl ⟨rfl, hk⟩
    rw [List.getElem?_map] at hi
    cases e : ks[i]? with
    | none => rw [e] at hi; cases hi
    | some z =>
      rw [e] at hi
      cases hi
      refine ⟨z, rfl, rfl, ?_⟩
      rw [List.length_append, List.length_singleton, hl, List.take_add_one, e]
      rw [hl] at hk
      simp only [Option.toList_some, List.map_append, List.map_cons, List.map_nil]
      rw [← hk]
      rfl
  · rintro kv H' ⟨rfl, hk⟩ hl
    rw [List.length_map] at hl
    rw [hl, List.take_length] at hk
    refine .inl ⟨ks.map absI, by rw [hk, List.map_map]; rfl, fun zs hp ho p hn => ?_⟩
    have e1 : (ks.map absI).zip (ks.map V.int) = ks.map fun i => (absI i, V.int i) := by
      rw [List.zip_map]
      have : ks.zip ks = ks.map fun i => (i, i) := by
        clear q hk hl hp
        induction ks with
        | nil => rfl
        | cons a r ih => rw [List.zip_cons_cons, ih]; rfl
      rw [this, List.map_map]
      rfl
    rw [e1] at hp
    have at_ : ∀ z ∈ zs, ∃ i, z = (absI i, V.int i) := fun z hz => by
      obtain ⟨i, _, e⟩ := List.mem_map.mp (hp.mem_iff.mp hz)
      exact ⟨i, e.symm⟩
    -- the ints of zs
    let f : Int × V → Int := fun z => match z.2 with | .int i => i | _ => 0
    have ef : zs.map (fun z => (absI (f z), V.int (f z))) = zs := by
      have : ∀ l : List (Int × V), (∀ z ∈ l, ∃ i, z = (absI i, V.int i)) → l.map (fun z => (absI (f z), V.int (f z))) = l := by
        intro l
        induction l with
        | nil => intro _; rfl
        | cons a r ih =>
          intro h
          obtain ⟨i, rfl⟩ := h a List.mem_cons_self
          rw [List.map_cons, ih fun z hz => h z (List.mem_cons_of_mem _ hz)]
      exact this zs at_
    have pk : (zs.map f).Perm ks := by
      have q1 := hp.map f
      rw [List.map_map] at q1
      have e2 : ks.map (f ∘ fun i => (absI i, V.int i)) = ks := by
        have : (f ∘ fun i => (absI i, V.int i)) = id := by funext i; rfl
        rw [this, List.map_id]
      rw [e2] at q1
      exact q1
    have po : (zs.map f).Pairwise fun a b => absI a ≤ absI b := by
      rw [← ef] at ho
      rw [List.pairwise_map] at ho ⊢
      exact ho
    have q2 := q (zs.map f) p pk po hn
    have e3 : (zs.map f).map V.int = zs.map (·.2) := by
      conv => rhs; rw [← ef]
      rw [List.map_map, List.map_map]
      rfl
    rw [e3] at q2
    exact q2
end
/-- tuples of ints at places -/
def TupsAt (H : Hp) (bs : List Addr) (cs : List (List Int)) : Prop := Paired (fun (b : Addr) (c : List Int) => H b = some (.tup (c.map V.int))) bs cs
theorem TupsAt.same {H H' : Hp} (e : Same H H') : ∀ {bs : List Addr} {cs : List (List Int)}, TupsAt H bs cs → TupsAt H' bs cs
  | _, _, .nil => .nil
  | _, _, .cons h t => .cons (e _ _ h) (TupsAt.same e t)
theorem TupsAt.len {H : Hp} : ∀ {bs : List Addr} {cs : List (List Int)}, TupsAt H bs cs → bs.length = cs.length
  | _, _, .nil => rfl
  | _, _, .cons _ t => by rw [List.length_cons, List.length_cons, TupsAt.len t]
theorem TupsAt.get {H : Hp} : ∀ {bs : List Addr} {cs : List (List Int)} {i : Nat} {b : Addr}, TupsAt H bs cs → bs[i]? = some b → ∃ c, cs[i]? = some c ∧ H b = some (.tup (c.map V.int))
  | _, _, _, _, .nil, h => by simp at h
  | _, _, 0, _, .cons h t, e => by cases e; exact ⟨_, rfl, h⟩
  | _, _, i + 1, _, .cons h t, e => TupsAt.get (i := i) t e
theorem TupsAt.zip {H : Hp} : ∀ {bs : List Addr} {cs : List (List Int)}, TupsAt H bs cs → ∀ p ∈ bs.zip cs, H p.1 = some (.tup (p.2.map V.int))
  | _, _, .nil, p, h => by simp at h
  | _, _, .cons h t, p, hp => by
    rw [List.zip_cons_cons] at hp
    rcases List.mem_cons.mp hp with rfl | hp
    · exact h
    · exact TupsAt.zip t p hp
theorem TupsAt.of_zip {H : Hp} : ∀ {zs : List (Addr × List Int)}, (∀ p ∈ zs, H p.1 = some (.tup (p.2.map V.int))) → TupsAt H (zs.map (·.1)) (zs.map (·.2))
  | [], _ => .nil
  | z :: zs, h => .cons (h z List.mem_cons_self) (TupsAt.of_zip fun p hp => h p (List.mem_cons_of_mem _ hp))
/-- shorter ones first, then rising -/
def ltC (a b : List Int) : Bool := ltKT ((a.length : Int), a) ((b.length : Int), b)
/-- what the key makes of a clause -/
def relLen (x : V) (H : Hp) (Q : VK) : Prop := ∃ c l, x = .ref c ∧ H c = some (.tup l) ∧ ∀ t, H t = none → Q (.ref t) (upd H t (.tup [.int (l.length : Int), .ref c]))
theorem go_cls {K : PySem.W.Frag} {rel : V → Hp → VK → Prop} {H : Hp} {Q : VK} {bs : List Addr} {cs : List (List Int)} (G : Hp → Prop) (g0 : G H) (gs : ∀ H1 H2, G H1 → Same H1 H2 → G H2)
    (hrel : ∀ x H Q, G H → relLen x H Q → rel x H Q) (T : TupsAt H bs cs)
    (q : ∀ (zs : List (Addr × List Int)) (H' : Hp) (p : Addr), zs.Perm (bs.zip cs) → zs.Pairwise (fun a b => ltC b.2 a.2 = false) → Same H H' → G H' → TupsAt H' (zs.map (·.1)) (zs.map (·.2)) → H' p = none → Q (.ref p) (upd H' p (.lst (zs.map fun z => V.ref z.1)))) :
    SortGo K rel (bs.map V.ref) H Q := by
  have hlen := T.len
  refine ⟨fun kv H' => Same H H' ∧ G H' ∧ ∃ ts : List Addr, kv = ts.map V.ref ∧ ∀ (i : Nat) (t b : Addr) (c : List Int), ts[i]? = some t → bs[i]? = some b → cs[i]? = some c → H' t = some (.tup [.int (c.length : Int), .ref b]), ⟨Same.refl H, g0, [], rfl, fun i t b c h => by simp at h⟩, ?_, ?_⟩
  · rintro i v kv H' hi hl ⟨sm, g, ts, rfl, hts⟩
    rw [List.getElem?_map] at hi
    cases e : bs[i]? with
    | none => rw [e] at hi; cases hi
    | some b =>
      rw [e] at hi
      cases hi
      obtain ⟨c, hc, hb⟩ := T.get e
      refine hrel _ _ _ g ⟨b, _, rfl, sm _ _ hb, fun t ht => ?_⟩
      have s2 : Same H' (upd H' t (.tup [.int ((c.map V.int).length : Int), .ref b])) := Same.new ht
      refine ⟨Same.trans sm s2, gs _ _ g s2, ts ++ [t], by rw [List.map_append]; rfl, fun j t' b' c' h1 h2 h3 => ?_⟩
      rw [List.length_map] at hl
      by_cases hj : j < ts.length
      · rw [List.getElem?_append_left hj] at h1
        exact s2 _ _ (hts j t' b' c' h1 h2 h3)
      · have hj' : j = ts.length := by
          have := (List.getElem?_eq_some_iff.mp h1).1
          rw [List.length_append, List.length_singleton] at this
          omega
        subst hj'
        rw [List.getElem?_append_right (Nat.le_refl _), Nat.sub_self] at h1
        cases h1
        rw [hl, e] at h2
        cases h2
        rw [hl, hc] at h3
        cases h3
        rw [upd_same, List.length_map]
  · rintro kv H' ⟨sm, g, ts, rfl, hts⟩ hl
    rw [List.length_map, List.length_map] at hl
    have T' := TupsAt.same sm T
    refine .inr ⟨cs.map fun c => ((c.length : Int), c), ?_, fun zs hp ho p hn => ?_⟩
    · -- the keys stand
      have : ∀ (ts bs : List Addr) (cs : List (List Int)), ts.length = bs.length → bs.length = cs.length → (∀ (i : Nat) (t b : Addr) (c : List Int), ts[i]? = some t → bs[i]? = some b → cs[i]? = some c → H' t = some (.tup [.int (c.length : Int), .ref b])) → TupsAt H' bs cs → Paired (KeyT K H') (ts.map V.ref) (cs.map fun c => ((c.length : Int), c)) := by
        intro ts
        induction ts with
        | nil =>
          intro bs cs h1 h2 _ _
          cases bs with
          | nil =>
            cases cs with
            | nil => exact .nil
            | cons c cs => simp at h2
          | cons b bs => simp at h1
        | cons t ts ih =>
          intro bs cs h1 h2 h3 h4
          cases h4 with
          | nil => simp at h1
          | cons hb ht =>
            refine .cons ⟨t, _, rfl, SqT.of (h3 0 _ _ _ rfl rfl rfl), SqT.of hb⟩ (ih _ _ (by simpa using h1) (by simpa using h2) (fun i t' b' c' a1 a2 a3 => h3 (i + 1) t' b' c' a1 a2 a3) ht)
      exact this ts bs cs hl hlen hts T'
    · have ez : (cs.map fun c => ((c.length : Int), c)).zip (bs.map V.ref) = (bs.zip cs).map fun z => (((z.2.length : Int), z.2), V.ref z.1) := by
        have : ∀ (bs : List Addr) (cs : List (List Int)), (cs.map fun c => ((c.length : Int), c)).zip (bs.map V.ref) = (bs.zip cs).map fun z => (((z.2.length : Int), z.2), V.ref z.1) := by
          intro bs
          induction bs with
          | nil => intro cs; cases cs <;> rfl
          | cons b bs ih =>
            intro cs
            cases cs with
            | nil => rfl
            | cons c cs =>
              rw [List.map_cons, List.map_cons, List.zip_cons_cons, List.zip_cons_cons, List.map_cons, ih]
        exact this bs cs
      rw [ez] at hp
      let f : (Int × List Int) × V → Addr × List Int := fun z => (match z.2 with | .ref a => a | _ => 0, z.1.2)
      have ef : zs.map (fun z => ((((f z).2.length : Int), (f z).2), V.ref (f z).1)) = zs := by
        have : ∀ l : List ((Int × List Int) × V), (∀ z ∈ l, ∃ y : Addr × List Int, z = (((y.2.length : Int), y.2), V.ref y.1)) → l.map (fun z => ((((f z).2.length : Int), (f z).2), V.ref (f z).1)) = l := by
          intro l
          induction l with
          | nil => intro _; rfl
          | cons a r ih =>
            intro h
            obtain ⟨y, rfl⟩ := h a List.mem_cons_self
            rw [List.map_cons, ih fun z hz => h z (List.mem_cons_of_mem _ hz)]
        exact this zs fun z hz => by
          obtain ⟨y, _, e⟩ := List.mem_map.mp (hp.mem_iff.mp hz)
          exact ⟨y, e.symm⟩
      have pk : (zs.map f).Perm (bs.zip cs) := by
        have q1 := hp.map f
        rw [List.map_map] at q1
        have e2 : (bs.zip cs).map (f ∘ fun z => (((z.2.length : Int), z.2), V.ref z.1)) = bs.zip cs := by
          have : (f ∘ fun z : Addr × List Int => (((z.2.length : Int), z.2), V.ref z.1)) = id := by funext z; rfl
          rw [this, List.map_id]
        rw [e2] at q1
        exact q1
      have po : (zs.map f).Pairwise fun a b => ltC b.2 a.2 = false := by
        rw [← ef] at ho
        rw [List.pairwise_map] at ho ⊢
        exact ho
      have tz : TupsAt H' ((zs.map f).map (·.1)) ((zs.map f).map (·.2)) := TupsAt.of_zip fun y hy => TupsAt.zip T' y (pk.mem_iff.mp hy)
      have q2 := q (zs.map f) H' p pk po sm g tz hn
      have e3 : (zs.map f).map (fun z => V.ref z.1) = zs.map (·.2) := by
        conv => rhs; rw [← ef]
        rw [List.map_map, List.map_map]
        rfl
      rw [e3] at q2
      exact q2
end Toy
namespace Toy
open PySem L2
/-! ### dicts by their keys -/
section
variable {κ α : Type} [DecidableEq κ] [DecidableEq α]
theorem valV_none {kvs : List (κ × V)} {k : κ} : valV kvs k = none ↔ k ∉ kvs.map (·.1) := by
  constructor
  · exact valV_not
  · intro h
    cases e : valV kvs k with
    | none => rfl
    | some v => exact absurd (valV_in e) h
/-- once more, at the end, if it isn't there -/
def addU (ks : List α) (n : α) : List α := if n ∈ ks then ks else ks ++ [n]
theorem keys_put {f : α → κ} (inj : ∀ a b, f a = f b → a = b) {kvs : List (κ × V)} {ks : List α} (h : kvs.map (·.1) = ks.map f) (n : α) (v : V) : (putK kvs (f n) v).map (·.1) = (addU ks n).map f := by
  unfold addU
  by_cases hn : n ∈ ks
  · rw [if_pos hn]
    have hm : f n ∈ kvs.map (·.1) := by rw [h]; exact List.mem_map.mpr ⟨n, hn, rfl⟩
    have ha : (kvs.any fun kv => decide (kv.1 = f n)) = true := by
      rw [List.any_eq_true]
      obtain ⟨p, hp, e⟩ := List.mem_map.mp hm
      exact ⟨p, hp, decide_eq_true e⟩
    unfold putK
    rw [if_pos ha, ← h, List.map_map]
    refine List.map_congr_left fun p _ => ?_
    show (if p.1 = f n then (p.1, v) else p).1 = p.1
    split <;> rfl
  · rw [if_neg hn]
    have hv : valV kvs (f n) = none := valV_none.mpr fun z => by
      rw [h] at z
      obtain ⟨m, hm, e⟩ := List.mem_map.mp z
      rw [inj _ _ e] at hm
      exact hn hm
    rw [putK_new v hv, List.map_append, h, List.map_append]
    rfl
theorem nd_add {ks : List α} (h : ks.Nodup) (n : α) : (addU ks n).Nodup := by
  unfold addU
  split
  · exact h
  · rename_i hn
    rw [List.nodup_append]
    exact ⟨h, by simp, fun a ha b hb => by rw [List.mem_singleton.mp hb]; exact fun e => hn (e ▸ ha)⟩
theorem mem_add {ks : List α} (n z : α) : z ∈ addU ks n ↔ z ∈ ks ∨ z = n := by
  unfold addU
  split
  · rename_i hn
    exact ⟨.inl, fun h => h.elim id fun e => e ▸ hn⟩
  · simp
theorem len_add {ks : List α} (n : α) : (addU ks n).length ≤ ks.length + 1 := by
  unfold addU
  split
  · omega
  · simp
theorem val_keys {f : α → κ} (inj : ∀ a b, f a = f b → a = b) {kvs : List (κ × V)} {ks : List α} (h : kvs.map (·.1) = ks.map f) (n : α) : (valV kvs (f n)).isSome = decide (n ∈ ks) := by
  by_cases hn : n ∈ ks
  · rw [decide_eq_true hn]
    cases e : valV kvs (f n) with
    | some v => rfl
    | none => exact absurd (by rw [h]; exact List.mem_map.mpr ⟨n, hn, rfl⟩) (valV_none.mp e)
  · rw [decide_eq_false hn, valV_none.mpr fun z => by
      rw [h] at z
      obtain ⟨m, hm, e⟩ := List.mem_map.mp z
      rw [inj _ _ e] at hm
      exact hn hm]
    rfl
end
theorem inl_inj (a b : Int) (h : (Sum.inl a : Key) = Sum.inl b) : a = b := Sum.inl.inj h
/-- a tuple of ints as a key -/
def tkey (c : List Int) : List Key := c.map Sum.inl
theorem tkey_inj (a b : List Int) (h : tkey a = tkey b) : a = b := (List.map_inj_right (fun x y h => Sum.inl.inj h)).mp h
theorem tkey_kV (c : List Int) : (tkey c).map kV = c.map V.int := by
  unfold tkey
  rw [List.map_map]
  rfl
end Toy
namespace Toy
open PySem L2
theorem e_sorted {r : V → Hp → VK → Prop} {t : TA} {σ : St} {H : Hp} {Q : VK} : tSorted r t σ H Q = t σ H fun vs H1 => ∃ x, vs = [x] ∧ r x H1 Q := rfl
end Toy
namespace Toy
open PySem L2
/-! ### the clauses of a problem -/
theorem ltC_irrefl (a : List Int) : ltC a a = false := by
  unfold ltC ltKT
  rw [if_pos rfl]
  exact lex_irrefl a
theorem ltC_total {a b : List Int} (h1 : ltC a b = false) (h2 : ltC b a = false) : a = b := by
  unfold ltC ltKT at h1 h2
  by_cases e : (a.length : Int) = (b.length : Int)
  · have h1 : HT.lexLt a b = false := by rw [if_pos e] at h1; exact h1
    have h2 : HT.lexLt b a = false := by rw [if_pos e.symm] at h2; exact h2
    exact lex_total a b h1 h2
  · rw [if_neg e] at h1
    rw [if_neg (Ne.symm e)] at h2
    have d1 := of_decide_eq_false h1
    have d2 := of_decide_eq_false h2
    omega
theorem ltC_asym {a b : List Int} (h : ltC a b = true) : ltC b a = false := swo_KT.asym _ _ h
theorem ltC_trans {a b c : List Int} (h1 : ltC a b = true) (h2 : ltC b c = true) : ltC a c = true := swo_KT.ltle h1 (swo_KT.asym _ _ h2)
/-- shorter ones first, rising: the unlike clauses of the rows -/
structure IsDue (rows cs : List (List Int)) : Prop where
  inc : cs.Pairwise fun a b => ltC a b = true
  mem : ∀ c, c ∈ cs ↔ ∃ row ∈ rows, IsCl row c
theorem ltC_ext : ∀ {c d : List (List Int)}, c.Pairwise (fun a b => ltC a b = true) → d.Pairwise (fun a b => ltC a b = true) → (∀ x, x ∈ c ↔ x ∈ d) → c = d
  | [], [], _, _, _ => rfl
  | [], y :: d, _, _, h => absurd ((h y).mpr List.mem_cons_self) (by simp)
  | x :: c, [], _, _, h => absurd ((h x).mp List.mem_cons_self) (by simp)
  | x :: c, y :: d, hc, hd, h => by
    have c1 := List.pairwise_cons.mp hc
    have d1 := List.pairwise_cons.mp hd
    have irr : ∀ z : List Int, ltC z z = true → False := fun z q => by rw [ltC_irrefl] at q; cases q
    have e : x = y := by
      rcases List.mem_cons.mp ((h x).mp List.mem_cons_self) with e | hx
      · exact e
      · rcases List.mem_cons.mp ((h y).mpr List.mem_cons_self) with e | hy
        · exact e.symm
        · exact (irr _ (ltC_trans (d1.1 x hx) (c1.1 y hy))).elim
    subst e
    have nx : x ∉ c := fun z => irr _ (c1.1 x z)
    have ny : x ∉ d := fun z => irr _ (d1.1 x z)
    rw [ltC_ext c1.2 d1.2 fun z => ⟨fun hz => (List.mem_cons.mp ((h z).mp (List.mem_cons_of_mem _ hz))).resolve_left fun e => nx (e ▸ hz), fun hz => (List.mem_cons.mp ((h z).mpr (List.mem_cons_of_mem _ hz))).resolve_left fun e => ny (e ▸ hz)⟩]
theorem IsDue.ext {r r' c c' : List (List Int)} (h : IsDue r c) (h' : IsDue r' c') (e : ∀ x, (∃ row ∈ r, IsCl row x) ↔ ∃ row ∈ r', IsCl row x) : c = c' :=
  ltC_ext h.inc h'.inc fun x => (h.mem x).trans ((e x).trans (h'.mem x).symm)
theorem inc_of {cs out : List (List Int)} (p : out.Perm cs) (nd : cs.Nodup) (h : out.Pairwise fun a b => ltC b a = false) : out.Pairwise fun a b => ltC a b = true := by
  have nd' : out.Nodup := p.nodup_iff.mpr nd
  refine (h.and nd').imp fun {a b} h => ?_
  cases e : ltC a b with
  | true => rfl
  | false => exact absurd (ltC_total e h.1) h.2
/-- the tuples that are the keys of a dict -/
theorem tups_of_keys {H : Hp} : ∀ {kvs : List (List Key × V)} {bs : List Addr} {cs : List (List Int)}, IsKeys H kvs bs → kvs.map (·.1) = cs.map tkey → TupsAt H bs cs
  | _, _, [], .nil, _ => .nil
  | _, _, _ :: _, .nil, h => by cases h
  | _, _, [], .cons _ _, h => by cases h
  | _, _, c :: cs, .cons hb t, h => by
    rw [List.map_cons, List.map_cons] at h
    have h1 := (List.cons.inj h).1
    have h2 := (List.cons.inj h).2
    refine .cons ?_ (tups_of_keys t h2)
    rw [h1, tkey_kV] at hb
    exact hb
end Toy
namespace Toy
open PySem L2
/-! ### clauses as data -/
def dTup (c : List Int) : PyData := .tuple (c.map PyData.int)
def dCls (cs : List (List Int)) : PyData := .tuple (cs.map dTup)
theorem dpAll_cls {K : PySem.W.Frag} {H : Hp} : ∀ {bs : List Addr} {cs : List (List Int)}, TupsAt H bs cs → DpAll K H (bs.map V.ref) (cs.map dTup)
  | _, _, .nil => .nil
  | _, _, .cons h t => .cons (.tup (SqT.of h) (dpAll_ints _)) (dpAll_cls t)
theorem can_cls : ∀ cs : List (List Int), PyData.canLayAll0 (cs.map dTup) = true
  | [] => by simp [PyData.canLayAll0]
  | c :: cs => by simp [PyData.canLayAll0, dTup, PyData.canLay0, can_intsD, can_cls cs]
theorem dep_cls : ∀ cs : List (List Int), PyData.depthAll (cs.map dTup) ≤ 2
  | [] => by simp [PyData.depthAll]
  | c :: cs => by
    have h1 := dep_cls cs
    have h2 := dep_intsD c
    simp only [List.map_cons, PyData.depthAll, dTup, PyData.depth]
    omega
theorem shaped_cls (cs : List (List Int)) : SeqAt.shaped (dCls cs) = true := by
  have h := dep_cls cs
  unfold SeqAt.shaped dCls
  rw [Bool.and_eq_true]
  refine ⟨by simp [PyData.canLay0, can_cls], decide_eq_true ?_⟩
  simp only [PyData.depth]
  omega
theorem eqvAll_cls : ∀ a b : List (List Int), PyData.eqvAll (a.map dTup) (b.map dTup) = decide (a = b)
  | [], [] => by simp [PyData.eqvAll]
  | [], y :: b => by simp [PyData.eqvAll]
  | x :: a, [] => by simp [PyData.eqvAll]
  | x :: a, y :: b => by
    simp only [List.map_cons, PyData.eqvAll, dTup, PyData.eqv, eqvAll_ints]
    rw [eqvAll_cls a b]
    by_cases h1 : x = y <;> by_cases h2 : a = b <;> simp [h1, h2]
theorem eqv_cls (a b : List (List Int)) : PyData.eqv (dCls a) (dCls b) = decide (a = b) := by
  unfold dCls
  simp only [PyData.eqv]
  exact eqvAll_cls a b
end Toy
namespace Toy
open PySem L2
theorem e_dsetd {td ty tx : TE} {σ : St} {H : Hp} {Q : VK} : tDSetd td ty tx σ H Q = td σ H fun x H1 => ∃ a, x = .ref a ∧ IsD H1 a ∧ ty σ H1 fun y H2 => tx σ H2 fun z H3 => ∃ (kvs : List (Key × V)) (k : Key), H3 a = some (.dK kvs) ∧ y = kV k ∧ kvs.length < sizeLine ∧
  (∀ v, valV kvs k = some v → Q v H3) ∧ (valV kvs k = none → Q z (upd H3 a (.dK (putK kvs k z)))) := rfl
/-- the draw of one of two -/
theorem at_two {a b : V} {r : Int} (h0 : 0 ≤ r) (h1 : r < 2) : (r = 0 ∧ atI [a, b] r = some a) ∨ (r = 1 ∧ atI [a, b] r = some b) := by
  have : r = 0 ∨ r = 1 := by omega
  rcases this with rfl | rfl
  · exact .inl ⟨rfl, rfl⟩
  · exact .inr ⟨rfl, rfl⟩
end Toy

local macro_rules | `(tactic| walk_at "rd") => `(tactic| try simp only [Toy.e_seq, Toy.e_asg, Toy.e_asgS, Toy.e_ret, Toy.e_ifS, Toy.e_c, Toy.e_op, Toy.e_test, Toy.e_rI0, Toy.e_rI, Toy.e_var0, Toy.e_varS, Toy.e_bl, Toy.e_nil, Toy.e_cons, Toy.e_call, Toy.e_cb, Toy.e_next, Toy.e_bl2, Toy.e_cxK, Toy.e_ii, Toy.e_lst, Toy.e_tup, Toy.e_and, Toy.e_chain, Toy.e_tif, Toy.e_not, Toy.e_tb, Toy.e_drop, Toy.e_i1, Toy.e_or, Toy.e_andT, Toy.e_din, Toy.e_dnotin, Toy.e_un, Toy.e_rU, Toy.e_dput, Toy.e_x1, Toy.e_notV, Toy.e_orV, Toy.e_sorted, Toy.e_fld, Toy.e_gName, Toy.e_bm, Toy.e_dsetd, Toy.e_par, Toy.e_vw, Toy.e_dnewK, List.set_cons_zero, List.set_cons_succ, List.append_nil, List.nil_append, List.cons_append])
-- part: IX
namespace Toy
open PySem L2
def topS (i : Nat) : Stmt := PySem.Challenge.pw_turnless_k55_least_of_a_kind.main.body.getD i (.Pass ⟨0, 0, 0, 0⟩)
abbrev s__wall : Stmt := topS 0
abbrev m_NoClause___init__ : Stmt := inClass (topS 4) 0
abbrev m_NoText___init__ : Stmt := inClass (topS 6) 0
abbrev m_NotThere___init__ : Stmt := inClass (topS 9) 0
abbrev m_NoLog___init__ : Stmt := inClass (topS 11) 0
abbrev m_NoDeed___init__ : Stmt := inClass (topS 17) 0
abbrev s_is_number : Stmt := topS 19
abbrev s_is_list : Stmt := topS 20
abbrev s_is_letter : Stmt := topS 21
abbrev s_is_worths : Stmt := topS 22
abbrev s_worth_table : Stmt := topS 23
abbrev s_is_turn : Stmt := topS 26
abbrev s_still : Stmt := topS 27
abbrev s__is_many : Stmt := topS 28
abbrev s_goes : Stmt := topS 29
abbrev s_table_of : Stmt := topS 30
abbrev s_led_on : Stmt := topS 31
abbrev s_led_back : Stmt := topS 32
abbrev m_Group___init__ : Stmt := inClass (topS 36) 0
abbrev m_Group___eq__ : Stmt := inClass (topS 36) 1
abbrev m_Group_truths : Stmt := inClass (topS 36) 2
abbrev m_Group_makers : Stmt := inClass (topS 36) 3
abbrev m_Group_base : Stmt := inClass (topS 36) 4
abbrev m_Group_floors : Stmt := inClass (topS 36) 5
abbrev m_Group_size : Stmt := inClass (topS 36) 6
abbrev m_Group_has : Stmt := inClass (topS 36) 7
abbrev m_Group_factors : Stmt := inClass (topS 36) 8
abbrev m_Group_orbit : Stmt := inClass (topS 36) 9
abbrev m_Group_orbits : Stmt := inClass (topS 36) 10
abbrev m_Group_leaving : Stmt := inClass (topS 36) 11
abbrev m_Group_turns : Stmt := inClass (topS 36) 12
abbrev m_Chain___init__ : Stmt := inClass (topS 37) 0
abbrev m_Chain_size : Stmt := inClass (topS 37) 1
abbrev m_Chain_makers_of : Stmt := inClass (topS 37) 2
abbrev m_Chain_holds : Stmt := inClass (topS 37) 3
abbrev m_Chain_put : Stmt := inClass (topS 37) 4
abbrev s__chain_of : Stmt := topS 38
abbrev s__unlike_makers : Stmt := topS 39
abbrev s__base_letters : Stmt := topS 40
abbrev s__rising : Stmt := topS 41
abbrev s_least : Stmt := topS 43
abbrev s__ways_from : Stmt := topS 44
abbrev s__law_mixed : Stmt := topS 46
abbrev s__law_next : Stmt := topS 47
abbrev s__law_turn : Stmt := topS 48
abbrev s__law_based : Stmt := topS 49
abbrev s__law_goes : Stmt := topS 50
abbrev s__law_led_answer : Stmt := topS 51
abbrev s__law_joined : Stmt := topS 52
abbrev s__law_products : Stmt := topS 53
abbrev s__law_kin : Stmt := topS 54
abbrev s__law_word : Stmt := topS 55
abbrev s__law_told : Stmt := topS 56
abbrev s__law_answer : Stmt := topS 57
abbrev s__law_none : Stmt := topS 58
abbrev s_law : Stmt := topS 59
/-- a def of the top -/
structure Df (K : PySem.W.Frag) (mg : Str → Option Value) (x : Str) (st : Stmt) (ps : List Str) (f : Addr) (fd : FuncData) : Prop where
  F : Fun K x x st f fd
  g : mg x = some (.ref f)
  b : Binds K fd ps []
/-- the built-in names -/
structure Bl (mg : Str → Option Value) : Prop where
  max : mg "max" = none
  min : mg "min" = none
  len : mg "len" = none
  range : mg "range" = none
  type : mg "type" = none
  int : mg "int" = none
  list : mg "list" = none
  tuple : mg "tuple" = none
  dict : mg "dict" = none
  bool : mg "bool" = none
  abs : mg "abs" = none
  sorted : mg "sorted" = none
  enumerate : mg "enumerate" = none
  isinstance : mg "isinstance" = none
  repr : mg "repr" = none
  str : mg "str" = none
  all : mg "all" = none
  any : mg "any" = none
  zip : mg "zip" = none
  reversed : mg "reversed" = none
  sum : mg "sum" = none
  set : mg "set" = none
  ValueError : mg "ValueError" = none
end Toy

-- part: P1q
namespace Toy
open PySem L2
section
variable {P : Program} {w : World} {K : PySem.W.Frag} {mg : Str → Option Value} {base : Heap}
abbrev sIsNum : Stmt := s_is_number
theorem scIsNum : FnScope ["thing"] ["thing"] (defScope sIsNum) := ⟨rfl, rfl, rfl, by decide +kernel, rfl, by decide +kernel, by decide +kernel⟩
def spIsNum (K : PySem.W.Frag) : Sp := fun vs H Q _ => ∃ x T, vs = [x] ∧ TyB K H x T ∧ Q (.bl (decide (T = "int"))) H
theorem ok_isNum {f : Addr} {fd : FuncData} (F : Fun K "is_number" "is_number" sIsNum f fd) (B : Bl mg) : FnOk P w K mg base CX0 1 f fd ["thing"] (spIsNum K) := by
  refine F.ok scIsNum (fun vs H Q E h => ?_) (fun cdv A outer s H vs Q E hr h => ?_)
  · obtain ⟨x, T, rfl, _⟩ := h
    rfl
  · obtain ⟨x, T, rfl, ty, q⟩ := h
    refine ⟨_, pss_one (ps_ret (pe_cmpR op_eqTy (pe_callTy call_type1 (by rfl) B.type (by decide +kernel) (pa_cons (pv 0) pa_nil)) (pe_bltn (v := .ty "int") (by rfl) B.int (by decide +kernel) rfl) (nomark _))), ?_⟩
    show tRet _ _ [some x] H
    walk_at "rd"
    exact ⟨x, T, rfl, ty, _, _, rfl, rfl, Kn.ty ty, .inl rfl, q⟩
abbrev sIsLet : Stmt := s_is_letter
theorem scIsLet : FnScope ["thing", "many"] ["thing", "many"] (defScope sIsLet) := ⟨rfl, rfl, rfl, by decide +kernel, rfl, by decide +kernel, by decide +kernel⟩
/-- whether x is a letter of t truths -/
def letB (x : V) (t : Int) : Bool := match x with
  | .int i => decide (1 ≤ absI i) && decide (absI i ≤ t)
  | _ => false
def spIsLet (K : PySem.W.Frag) : Sp := fun vs H Q _ => ∃ x T t, vs = [x, .int t] ∧ TyB K H x T ∧ Q (.bl (letB x t)) H
theorem ok_isLet {f fN : Addr} {fd fdN : FuncData} (F : Fun K "is_letter" "is_letter" sIsLet f fd) (B : Bl mg) (N : Df K mg "is_number" sIsNum ["thing"] fN fdN) : FnOk P w K mg base CX0 2 f fd ["thing", "many"] (spIsLet K) := by
  have GN : FnOk P w K mg base CX0 1 fN fdN ["thing"] (spIsNum K) := ok_isNum N.F B
  refine F.ok scIsLet (fun vs H Q E h => ?_) (fun cdv A outer s H vs Q E hr h => ?_)
  · obtain ⟨x, T, t, rfl, _⟩ := h
    rfl
  · obtain ⟨x, T, t, rfl, ty, q⟩ := h
    refine ⟨_, pss_one (ps_ret (pe_and (pe_call GN hr rfl N.g N.F.kp N.b .nil pass0 (pa_cons (pv 0) pa_nil)) (pe_one (pe_chain op_le op_le pe_int (pe_callB call_abs (by rfl) B.abs (by decide +kernel) (pa_cons (pv 0) pa_nil)) (pv 1))))), ?_⟩
    show tRet _ _ [some x, some (.int t)] H
    walk_at "rd"
    refine ⟨x, T, rfl, ty, ?_⟩
    walk_at "rd"
    cases ty with
    | int i =>
      refine iteT ?_
      walk_at "rd"
      by_cases h1 : 1 ≤ absI i
      · have e : decide (1 ≤ if i < 0 then -i else i) = true := decide_eq_true h1
        rw [e]
        refine iteT ?_
        have q' := q
        unfold letB at q'
        simp only [h1, decide_true, Bool.true_and] at q'
        exact q'
      · have e : decide (1 ≤ if i < 0 then -i else i) = false := decide_eq_false h1
        rw [e]
        refine iteF ?_
        have q' := q
        unfold letB at q'
        simp only [h1, decide_false, Bool.false_and] at q'
        exact q'
    | _ => exact q
end
end Toy

-- part: L0q
namespace Toy
open PySem L2
abbrev sMixed : Stmt := s__law_mixed
theorem scMixed : FnScope ["cell", "k", "mix"] ["cell", "k"] (defScope sMixed) := ⟨rfl, rfl, rfl, by decide +kernel, rfl, by decide +kernel, by decide +kernel⟩
def spMixed : Sp := fun vs H Q _ => ∃ (c k : Int), vs = [.int c, .int k] ∧ 0 ≤ k ∧ k < 127 ∧ ∀ r : Int, 0 ≤ r → r < 2147483399 → Q (.int r) H
section
variable {P : Program} {w : World} {K : PySem.W.Frag} {mg : Str → Option Value} {base : Heap}
theorem ok_mixed {f : Addr} {fd : FuncData} (F : Fun K "_law_mixed" "_law_mixed" sMixed f fd) : FnOk P w K mg base CX0 1 f fd ["cell", "k"] spMixed := by
  refine F.ok scMixed (fun vs H Q E h => ?_) (fun cdv A outer s H vs Q E hr h => ?_)
  · obtain ⟨c, k, rfl, _⟩ := h
    rfl
  · obtain ⟨c, k, rfl, k0, k1, q⟩ := h
    refine ⟨_, pss_cons (ps_set (i := 2) scMixed.nd rfl (Or.inl rfl)
        (pe_op op_modN (pe_op op_pow (pe_op op_modN (pe_op op_mul (pe_op op_add (pe_op op_add (pe_op op_modN (pv 0) pe_int) (pe_op op_mul pe_int (pv 1))) pe_int) pe_int) pe_int) pe_int) pe_int))
      (pss_cons (ps_if (pt_cmpR op_lt (pv 0) (pe_op op_pow pe_int pe_int) (nomark _)) (pss_one (ps_ret (pv 2))) pss_nil)
      (pss_one (ps_ret (pe_op op_modN (pe_op op_add (pv 2) (pe_op op_modN (pe_op op_fdivW (pv 0) (pe_op op_pow pe_int pe_int)) (pe_op op_add pe_int (pe_op op_mul (pe_op op_add (pv 1) pe_int) pe_int)))) pe_int)))), ?_⟩
    show tSeq _ _ _ [some (.int c), some (.int k), none] H
    walk_at "rd"
    have m0 : ∀ a : Int, 0 ≤ a.fmod 2147483399 ∧ a.fmod 2147483399 < 2147483399 := fun a => by
      rw [Int.fmod_eq_emod_of_nonneg _ (by decide)]
      omega
    have m1 := m0 c
    have m2 := m0 ((c.fmod 2147483399 + 104729 * k + 11) * 48271)
    generalize c.fmod 2147483399 = x at *
    generalize ((x + 104729 * k + 11) * 48271).fmod 2147483399 = y at *
    have m3 := m0 (y ^ Int.toNat 5)
    refine ⟨by decide, .inl ⟨by decide, by decide⟩, .inl ⟨by omega, by omega⟩, by decide, ⟨by decide, by decide, by omega⟩, by decide, ⟨by decide, by decide, by decide⟩, ite2 (fun _ => q _ m3.1 m3.2) (fun _ => ?_)⟩
    have big : (1 : Int) + (k + 1) * 4014476939333036189094441199026045136645885247730 ≠ 0 := by omega
    refine ⟨⟨by decide, by decide, by decide⟩, wide_div (b := 60) (by decide) (by decide) (by decide) (by decide), .inl ⟨by omega, by omega⟩, big, by decide, q _ (m0 _).1 (m0 _).2⟩
abbrev sNext : Stmt := s__law_next
theorem scNext : FnScope ["draw", "size", "at", "many", "cell"] ["draw", "size"] (defScope sNext) := ⟨rfl, rfl, rfl, by decide +kernel, rfl, by decide +kernel, by decide +kernel⟩
def spNext (K : PySem.W.Frag) : Sp := fun vs H Q _ => ∃ (d : Addr) (z : Int) (sc : Addr) (ns : List Int), vs = [.ref d, .int z] ∧ 0 < z ∧ DrA K sc ns H d ∧ ∀ (r : Int) (H' : Hp), 0 ≤ r → r < z → Ex d H H' → DrA K sc ns H' d → Q (.int r) H'
theorem ok_next {f fM : Addr} {fd fdM : FuncData} (F : Fun K "_law_next" "_law_next" sNext f fd) (B : Bl mg) (M : Df K mg "_law_mixed" sMixed ["cell", "k"] fM fdM) : FnOk P w K mg base CX0 2 f fd ["draw", "size"] (spNext K) := by
  have GM : FnOk P w K mg base CX0 1 fM fdM ["cell", "k"] spMixed := ok_mixed M.F
  refine F.ok scNext (fun vs H Q E h => ?_) (fun cdv A outer s H vs Q E hr h => ?_)
  · obtain ⟨c, k, sc, ns, rfl, _⟩ := h
    rfl
  · obtain ⟨d, z, sc, ns, rfl, z0, ⟨n, D⟩, q⟩ := h
    have hu := hu_of hr
    refine ⟨_, pss_cons (ps_set (i := 2) scNext.nd rfl (Or.inl rfl) (pe_ix ix_list (pv 0) pe_int (fun _ _ => rfl)))
      (pss_cons (ps_asg (pe_op op_add (pv 2) pe_int) (pg_sub (pv 0) pe_int set_list))
      (pss_cons (ps_set (i := 3) scNext.nd rfl (Or.inl rfl) (pe_callB (call_max2 rfl) (by rfl) B.max (by decide +kernel) (pa_cons pe_int (pa_cons (pe_callB call_len_seq (by rfl) B.len PySem.boot_len (pa_cons (pe_ix ix_list (pv 0) pe_int (fun _ _ => rfl)) pa_nil)) pa_nil))))
      (pss_cons (ps_set (i := 4) scNext.nd rfl (Or.inl rfl) pe_int)
      (pss_cons (ps_if (pt_cmpR (op_neD hr.units) (pe_ix ix_list (pv 0) pe_int (fun _ _ => rfl)) (pe_lst pa_nil) (nomark _)) (pss_one (ps_set (i := 4) scNext.nd rfl (Or.inl rfl) (pe_ix ix_list (pe_ix ix_list (pv 0) pe_int (fun _ _ => rfl)) (pe_op op_modN (pv 2) (pv 3)) (fun _ _ => rfl)))) pss_nil)
      (pss_one (ps_ret (pe_op op_modN (pe_op op_fdivN (pe_call GM hr rfl M.g M.F.kp M.b .nil pass0 (pa_cons (pv 4) (pa_cons (pe_op op_modN (pe_op op_fdivN (pv 2) (pv 3)) pe_int) pa_nil))) pe_int) (pv 1)))))))), ?_⟩
    show tSeq _ _ _ [some (.ref d), some (.int z), none, none, none] H
    walk_at "rd"
    refine p_ix (SqL.of D.dr) (i := 1) (v := .int n) rfl ?_
    walk_at "rd"
    refine p_set D.dr (j := 1) rfl ?_
    have D1 : Dr K (upd H d (.lst [.ref sc, .int (n + 1)])) d sc ns (n + 1) := ⟨upd_same, Dr.sqx D Ex.at, D.len, by have := D.pos; omega⟩
    refine p_ix (SqL.of D1.dr) (i := 0) (v := .ref sc) rfl ?_
    refine ⟨_, _, rfl, .inl D1.sq, ?_⟩
    walk_at "rd"
    refine p_ix (SqL.of D1.dr) (i := 0) (v := .ref sc) rfl ?_
    walk_at "rd"
    refine ⟨Nat.zero_le _, fun p hp => ?_⟩
    refine p_neD (.lst (Same.seq (Same.new hp) D1.sq) (dp_ints ns)) (.lst (SqL.of upd_same) .nil) (shaped_lints ns) (by decide) ?_
    walk_at "rd"
    rw [List.length_map]
    have D2 : Dr K (upd (upd H d (.lst [.ref sc, .int (n + 1)])) p (.lst [])) d sc ns (n + 1) := ⟨Same.new hp _ _ D1.dr, Same.seq (Same.new hp) D1.sq, D.len, D1.pos⟩
    have X2 : Ex d H (upd (upd H d (.lst [.ref sc, .int (n + 1)])) p (.lst [])) := Ex.trans Ex.at (Ex.same (Same.new hp))
    generalize upd (upd H d (.lst [.ref sc, .int (n + 1)])) p (.lst []) = H2 at *
    have hm : ∃ m : Int, (if (ns.length : Int) > 1 then (ns.length : Int) else 1) = m ∧ 0 < m ∧ m ≤ 63 ∧ (ns ≠ [] → m = ns.length) := by
      have l := D.len
      refine ⟨_, rfl, ?_⟩
      by_cases c : (ns.length : Int) > 1
      · rw [if_pos c]
        exact ⟨by omega, by omega, fun _ => rfl⟩
      · rw [if_neg c]
        refine ⟨by decide, by decide, fun e => ?_⟩
        have := List.length_pos_iff.mpr e
        omega
    obtain ⟨m, em, m0, m1, m2⟩ := hm
    rw [em]
    have n0 := D.pos
    have fin : ∀ c : Int, CDivN n m ∧ (127 : Int) ≠ 0 ∧ spMixed [V.int c, V.int ((n.fdiv m).fmod 127)] H2 (fun x H1 => rI CDivN (fun i j => V.int (i.fdiv j)) x (V.int 7) H1 fun x H1 => rI (fun x j => j ≠ 0) (fun i j => V.int (i.fmod j)) x (V.int z) H1 Q) E0 := by
      intro c
      refine ⟨⟨by omega, by omega⟩, by decide, c, _, rfl, ?_, ?_, fun r r0 r1 => ?_⟩
      · rw [Int.fmod_eq_emod_of_nonneg _ (by decide)]; omega
      · rw [Int.fmod_eq_emod_of_nonneg _ (by decide)]; omega
      · walk_at "rd"
        refine ⟨⟨by decide, by decide⟩, by omega, ?_⟩
        rw [Int.fmod_eq_emod_of_nonneg _ (by omega)]
        exact q _ _ (Int.emod_nonneg _ (by omega)) (Int.emod_lt_of_pos _ z0) X2 ⟨_, D2⟩
    refine ite2 (fun hc => ?_) (fun _ => fin 0)
    have hne : ns ≠ [] := fun e => by subst e; exact absurd hc (by decide)
    refine p_ix (SqL.of D2.dr) (i := 0) (v := .ref sc) rfl ?_
    refine ⟨by omega, ?_⟩
    obtain ⟨c, hc⟩ := at_ints (ns := ns) (i := n.fmod m) (by rw [Int.fmod_eq_emod_of_nonneg _ (by omega)]; exact Int.emod_nonneg _ (by omega)) (by rw [Int.fmod_eq_emod_of_nonneg _ (by omega), ← m2 hne]; exact Int.emod_lt_of_pos _ m0)
    exact p_ix D2.sq hc (fin c)
end
end Toy

-- part: TN1
namespace L2
open PySem PySem.Spec PySem.Calls PyProof.Rows
theorem slot_type_ne : Slot "type" (cmpInfo .NotEq).2.1 "object.__ne__" :=
  .of (owner := "object") (n := "__ne__") (by rw [typeLookup_type, builtinLookup_eq_fast]; kernel_rfl) (by decide +kernel) (by decide +kernel) (by decide +kernel)
    (by first | exact .inl (by decide +kernel) | exact .inr (by decide +kernel)) (by rw [isSubtype_type]; kernel_rfl)
theorem slot_type_ne_refl : Slot "type" (cmpInfo .NotEq).2.2 "object.__ne__" :=
  .of (owner := "object") (n := "__ne__") (by rw [typeLookup_type, builtinLookup_eq_fast]; kernel_rfl) (by decide +kernel) (by decide +kernel) (by decide +kernel)
    (by first | exact .inl (by decide +kernel) | exact .inr (by decide +kernel)) (by rw [isSubtype_type]; kernel_rfl)
theorem slot_type_eq1 : Slot "type" "__eq__" "object.__eq__" := TypeEq.slot_type_eq
section
variable {prog : Program} {w : World} {A : Around} {E : Value → Shared → Prop} {s : Shared}
theorem ne_same_entry {a : String} (ha : ∀ s' : Shared, s'.TypeIs (.type a) "type") {Q : Fin → Shared → Prop} (q : Q (.done (.ret (.bool false))) s) :
    wpAny (model prog w) A (Builtin.«object.__ne__» ⟨[.type a, .type a], []⟩) Q E s := by
  unfold Builtin.«object.__ne__»
  repeat (first
    | with_reducible refine wpAny_cRoomFor_byValue rfl ?_
    | (refine wpAny_bind (m := callSpecialIfBound? (.type a) (Str.ofString "__eq__") [.type a]) (wpAny_callSpecialIfBound?_slot (ha s) slot_type_eq1
        (call_gives slot_type_eq1 (ha s) F.entry_object_eq (F.args_object_eq_2 _ _) (TypeEq.object_eq_same rfl (by simp)) ?_)); try dsimp only [Made.post])
    | (refine wpAny_bind (m := truthy (.bool _)) (wpAny_truthy_bool ?_))
    | wp_step)
  exact q
theorem ne_other_entry {a b : String} (ha : ∀ s' : Shared, s'.TypeIs (.type a) "type") (hne : (Value.type a == Value.type b) = false) {Q : Fin → Shared → Prop} (q : Q (.done (.ret .notImplemented)) s) :
    wpAny (model prog w) A (Builtin.«object.__ne__» ⟨[.type a, .type b], []⟩) Q E s := by
  unfold Builtin.«object.__ne__»
  repeat (first
    | with_reducible refine wpAny_cRoomFor_byValue rfl ?_
    | (refine wpAny_bind (m := callSpecialIfBound? (.type a) (Str.ofString "__eq__") [.type b]) (wpAny_callSpecialIfBound?_slot (ha s) slot_type_eq1
        (call_gives slot_type_eq1 (ha s) F.entry_object_eq (F.args_object_eq_2 _ _) (TypeEq.object_eq_other rfl hne) ?_)); try dsimp only [Made.post])
    | wp_step)
  exact q
theorem ne_type_same {a : String} (ha : ∀ s' : Shared, s'.TypeIs (.type a) "type") {Q : Value → Shared → Prop} (q : Q (.bool false) s) : wpAny (model prog w) A (compareOp .NotEq (.type a) (.type a)) Q E s := by
  show wpAny _ A (richCompare .NotEq _ _) Q E s
  exact wpAny_richCompare_same (T := "type") (ha s) (ha s) slot_type_ne (wpAny_call_entry slot_type_ne (ha s) F.cmpEntry_ne (ne_same_entry ha ⟨_, rfl, (by intro e; cases e), q⟩) (F.cmpArgs_ne _ _))
theorem ne_type_other {a b : String} (ha : ∀ s' : Shared, s'.TypeIs (.type a) "type") (hb : ∀ s' : Shared, s'.TypeIs (.type b) "type") (hne : (Value.type a == Value.type b) = false) {Q : Value → Shared → Prop} (q : Q (.bool true) s) :
    wpAny (model prog w) A (compareOp .NotEq (.type a) (.type b)) Q E s := by
  have hne' : (Value.type b == Value.type a) = false := by
    rw [Bool.eq_false_iff] at hne ⊢
    intro e
    exact hne (by rw [beq_iff_eq] at e ⊢; exact e.symm)
  show wpAny _ A (richCompare .NotEq _ _) Q E s
  rcases hi : cmpInfo CmpOp.NotEq with ⟨sym, f, r⟩
  have h1 : Slot "type" f "object.__ne__" := by have := slot_type_ne; rw [hi] at this; exact this
  have h2 : Slot "type" r "object.__ne__" := by have := slot_type_ne_refl; rw [hi] at this; exact this
  simp only [richCompare, hi, (ha s).oneThing_none]
  try with_reducible refine wpAny_holding ?_
  refine wpAny_bind (wpAny_cRoomFor_byValue rfl ?_)
  refine wpAny_bind (wpAny_typeOf (ha s) (wpAny_bind (wpAny_typeOf (hb s) ?_)))
  simp only [bne_self_eq_false, Bool.false_eq_true, if_false, pure_bind, Bool.not_false, if_true]
  refine wpAny_bind (m := tryCompare (.type a) _ (.type b)) (wpAny_tryCompare_declines (ha s) h1 (wpAny_call_entry h1 (ha s) F.cmpEntry_ne (ne_other_entry ha hne ⟨_, rfl, rfl, ?_⟩) (F.cmpArgs_ne _ _)))
  refine wpAny_bind (m := tryCompare (.type b) _ (.type a)) (wpAny_tryCompare_declines (hb s) h2 (wpAny_call_entry h2 (hb s) F.cmpEntry_ne (ne_other_entry hb hne' ⟨_, rfl, rfl, ?_⟩) (F.cmpArgs_ne _ _)))
  have hk : isSame (.type a) (.type b) = pure false := by rw [isSame_plain rfl, hne]
  exact wpAny_bind (wpAny_rule (wpAny_bind (wpAny_of_eq hk (wpAny_pure q))))
end
section
variable {X : Cx}
theorem op_neT : OpR X (compareOp .NotEq) (fun x y H Q => ∃ a b, x = .ty a ∧ y = .ty b ∧ Kn a ∧ Kn b ∧ Q (.bl (!decide (a = b))) H) := by
  intro pins s σ H x y v u Q I rx ry h
  obtain ⟨a, b, rfl, rfl, ka, kb, q⟩ := h
  cases rx
  cases ry
  by_cases e : a = b
  · subst e
    rw [decide_eq_true rfl] at q
    exact ne_type_same (fun s' => ka.is s') ⟨.bl false, H, I, rfl, q⟩
  · rw [decide_eq_false e] at q
    exact ne_type_other (fun s' => ka.is s') (fun s' => kb.is s') (by rw [ty_beq]; exact decide_eq_false e) ⟨.bl true, H, I, rfl, q⟩
end
end L2

-- part: SC1
namespace L2
open PySem PySem.Spec PySem.Calls PyProof.Rows
/-- one turn of {a number for a target in ..}: what was a turn's state W goes on to the next, the number in the set at D -/
def SetTurn (w : World) (g : TG) (te : TE) (vs : List Nat) (σ : St) (D : Addr) (Nx : Hp → Prop) (x : V) (H : Hp) : Prop :=
  g x (wipe σ vs) H fun τ H2 => wipe τ vs = wipe σ vs ∧ te τ H2 fun y H3 => ∃ (k : Int) (S : Int → Bool) (n : Nat), y = .int k ∧ H3 D = some (SetO w D S n) ∧ n + 1 < scanBound ∧ Nx (upd H3 D (SetO w D (fun j => S j || decide (j = k)) (if S k = true then n else n + 1)))
/-- the reading of {number for target in it} -/
def tSetI (w : World) (wi : TI) (g : TG) (te : TE) (vs : List Nat) : TE := fun σ H Q => wi σ H fun J H1 => ∀ D, H1 D = none →
  ∃ W : Nat → Nat → Hp → Prop, (∃ m, W 0 m (upd H1 D (SetO w D (fun _ => false) 0))) ∧
    ∀ i m Hi, W i m Hi → (J.stop i Hi ∧ Q (.ref D) Hi) ∨ (J.go i Hi ∧ ∃ Nx : Hp → Prop, (∀ H', Nx H' → ∃ m', m' < m ∧ W (i + 1) m' H') ∧ ∀ x H', J.yld i Hi x H' → SetTurn w g te vs σ D Nx x H')
section
variable {X : Cx}
theorem pe_setI {el tg src : Expr} {sc : Scope} {own : List (Str × Nat)} {at_ : Pos} {wi : TI} {g : TG} {te : TE} (calm : X.calm = true) (nd : X.N.Nodup) (pi : PI X tg src wi) (blk : BlkOk X.N X.env.scope sc own)
    (hg : ∀ (s : Shared) (H : Hp) (C : Addr) (cl : List (Str × Addr)) (fp : List Addr), PG (X.blk s H sc (compEnvC sc cl C X.env) fp) tg g)
    (he : ∀ (s : Shared) (H : Hp) (C : Addr) (cl : List (Str × Addr)) (fp : List Addr), PE (X.blk s H sc (compEnvC sc cl C X.env) fp) el te) (plain : ∀ x, foldedSetIterable src X.env x = pure x := by intro _; rfl) :
    PE X (.SetComp el [⟨tg, src, [], 0⟩] sc at_) (tSetI X.w wi g te (own.map (·.2))) := by
  refine ⟨fun pins s σ H Q I0 rd => ?_⟩
  rw [PpSet.eval_SetComp]
  have cells : ∀ y ∈ sc.names, y.2 = .free → ∃ c, X.env.cells.lookup y.1 = some c := fun y hy e => (blk.free y hy e).elim (fun k => I0.ok.has _ (.inl k)) fun k => I0.ok.has _ (.inr k)
  refine wpAny_comprehension_free (use := none) rfl plain (closure_ok cells) blk.kind (fun y hy e => by rw [blk.uniq y hy, e]) (thn (pi.run pins s σ H _ I0 rd) fun _ sa hx => thn hx fun _ sb ⟨it, fp, tn, J, Ha, ev, Ia, T, sta, fa, rdA⟩ => ?_)
  cases ev
  refine PpSet.newSet_ok (newEnv_comp ?_)
  obtain ⟨D, eD⟩ : ∃ D, sb.heap.objs.size = D := ⟨_, rfl⟩
  rw [eD]
  obtain ⟨W, ⟨m0, w0⟩, turn⟩ := rdA D (Ia.hok.fresh (Nat.le_of_eq eD))
  -- the new set stands
  obtain ⟨sn, esn⟩ : ∃ sn : Shared, sn = { sb with heap := sb.heap.push { cls := .type "set", dict := none, data := .set #[] 0 (.fresh 0 0 (!X.w.params.followText "set-order")) } } := ⟨_, rfl⟩
  obtain ⟨Hn, eHn⟩ : ∃ Hn : Hp, Hn = upd Ha D (SetO X.w D (fun _ => false) 0) := ⟨_, rfl⟩
  rw [← eHn] at w0
  rw [← esn]
  have older : ∀ b o, sb.heap.get? b = some o → sn.heap.get? b = some o := fun b o e => by rw [esn]; exact Heap.get?_push_of_some _ e
  have In : Inv X pins σ Hn sn := by
    rw [eHn, esn]
    exact Ia.laid (t' := sb.toks) (fun b o e => Heap.get?_push_of_some _ e) (Nat.le_of_eq eD) (by rw [← eD]; exact setO_new (setR_fresh X.w))
  have fn : ∀ b ∈ fp, FpOk X pins Hn b ∧ b < sn.heap.objs.size := fun b hb => by
    obtain ⟨o, e, _⟩ := T.obj _ _ sta b hb
    have lt := Heap.lt_size e
    have nb : b ≠ D := by rw [← eD]; exact Nat.ne_of_lt lt
    refine ⟨⟨by rw [eHn, upd_ne nb]; exact (fa b hb).1, (fa b hb).2⟩, ?_⟩
    rw [esn, Heap.size_push]
    exact Nat.lt_succ_of_lt lt
  have free : ∀ b ∈ fp, Hn b = none := fun b hb => (fn b hb).1.1
  have stn : tn 0 sn.heap := T.keep _ _ _ sta fun b _ o e => older b o e
  have Iblk := block_start In blk nd fn
  obtain ⟨cl, ecl⟩ : ∃ cl, cl = cellsFrom (sn.heap.objs.size + 1) sc.names (cloFrom X.env.cells sc.names []) := ⟨_, rfl⟩
  rw [← ecl] at Iblk
  have rg := hg sn Hn sn.heap.objs.size cl fp
  have re := he sn Hn sn.heap.objs.size cl fp
  obtain ⟨ce, ece⟩ : ∃ ce, ce = compEnvC sc cl sn.heap.objs.size X.env := ⟨_, rfl⟩
  rw [← ece] at Iblk rg re
  have here : ce.locals = sn.heap.objs.size := by rw [ece]; rfl
  obtain ⟨s4, es4⟩ : ∃ s4 : Shared, s4 = { sn with heap := pushCells (sn.heap.push { cls := .type "dict", data := .dict #[] }) sc.names } := ⟨_, rfl⟩
  have Iblk : Inv (X.blk sn Hn sc ce fp) [] (wipe σ (own.map (·.2))) Hn s4 := by rw [es4]; exact Iblk
  have st4 : tn 0 s4.heap := T.keep _ _ _ stn fun b _ o e => by rw [es4]; exact pushCells_keeps _ _ _ _ (Heap.get?_push_of_some _ e)
  suffices z : codeAny (model X.prog X.w) X.A (.compStart (.SetComp el [⟨tg, src, [], 0⟩] sc at_) 0 (.ref it) (.ref D) ce) (compPost (model X.prog X.w) X.A X.xe none (EP X pins σ Q) (.ref D) sn.heap.objs.size) s4 by
    subst ecl ece es4
    exact z
  have known : ∀ {τ : St} {H' : Hp} {s' : Shared}, Inv (X.blk sn Hn sc ce fp) [] τ H' s' → (∀ b ∈ fp, H' b = none) → ∀ b ∈ fp, FpOk (X.blk sn Hn sc ce fp) [] H' b := fun {τ H' s'} I' out b hb =>
    ⟨out b hb, (I'.ok.exf b hb).1, I'.ok.exfs b hb, .inl hb, fun x c e => (I'.ok.exf b hb).2 x c e, fun p hp => absurd (show p ∈ ([] : List (Addr × Obj)) ++ [] from hp) (by simp)⟩
  have loop : codeAny (model X.prog X.w) X.A (.compLoop (.SetComp el [⟨tg, src, [], 0⟩] sc at_) 0 (.ref it) (.ref D) ce) (compPost (model X.prog X.w) X.A X.xe none (EP X pins σ Q) (.ref D) sn.heap.objs.size) s4 := by
    refine PpSet.compLoopS_any (fun n s' => ∃ i H', Inv (X.blk sn Hn sc ce fp) [] (wipe σ (own.map (·.2))) H' s' ∧ tn i s'.heap ∧ (∀ b ∈ fp, H' b = none) ∧ W i n H') (fun n s5 ⟨i, H5, I5, st5, out5, w5⟩ => ?_) m0 ⟨0, Hn, Iblk, st4, free, w0⟩
    rcases turn i n H5 w5 with ⟨stop, fin⟩ | ⟨goes, Nx, less, step⟩
    · refine thnF (T.done (X.blk sn Hn sc ce fp) rfl rfl rfl calm i [] s5 _ H5 (fun _ _ => False) I5 (known I5 out5) st5 stop) fun r s6 ⟨er, I6⟩ => ?_
      cases er
      have back : Inv X pins σ H5 s6 := In.call' (ch := fp) I6.os I6.base I6.hok I6.bare fun b hb => by
        obtain ⟨⟨_, q1, q2, q3, q4, q5⟩, _⟩ := fn b hb
        exact ⟨q3, q1, q4, q5⟩
      obtain ⟨m, ns, _⟩ := I6.loc
      have ns : s6.heap.Ns ce.locals m := ns
      have out : H5 ce.locals = none := I6.free
      rw [here] at ns out
      obtain ⟨f0, f1, f2, f3, f4, f5⟩ := In.fpOk (Nat.le_refl _) out
      exact ⟨m, ns, fun h' same => ⟨.ref D, H5, back.turned (t' := s6.toks) (fun b o nb e => (same.2 b nb).trans e) f0 f1 f3 f4 f5, rfl, fin⟩⟩
    · refine thnF (T.item (X.blk sn Hn sc ce fp) rfl rfl rfl calm i [] s5 _ H5 (fun _ _ => False) I5 (known I5 out5) st5 goes) fun r s6 ⟨u, er, h6⟩ => ?_
      cases er
      refine thnF h6 fun _ s7 ⟨x, H7, I7, r7, y7, st7, out7⟩ => ?_
      refine thnF (rg.run _ s7 _ H7 x u _ (I7.pinned (known I7 out7) (T.obj _ _ st7)) r7 (step x H7 y7)) fun _ s8 ⟨τ, H8, I8, ew, q8⟩ => ?_
      refine wpAny_pure ?_
      simp only [if_true]
      refine thnF (re.run _ s8 τ H8 _ I8 q8) fun z s9 ⟨y, H9, I9, r9, k, S, c, ey, hD, room, nx⟩ => ?_
      cases ey
      obtain ⟨tk, rfl⟩ := r9
      refine thnF (mt_sadd (X := X.blk sn Hn sc ce fp) _ s9 τ H9 (.ref D) [.int k] (.ref D) [.int k tk] (fun _ H' => Nx H') I9 rfl (.cons ⟨tk, rfl⟩ .nil) ⟨D, k, S, c, rfl, rfl, hD, room, nx⟩) fun _ s10 ⟨_, H10, I10, _, nx10⟩ => ?_
      obtain ⟨m', lt, w'⟩ := less H10 nx10
      have stay : ∀ b ∈ fp, ∀ o, s7.heap.get? b = some o → s10.heap.get? b = some o ∧ H10 b = none := fun b hb o e => by
        have p := I10.pin (b, o) (List.mem_append_right _ (List.mem_append_right _ (mem_pinsAt hb e)))
        exact ⟨p.1, p.2.1⟩
      refine ⟨m', lt, i + 1, H10, (I10.unpinned (pins := [])).weak (by rw [← ew, wipe_length]) (fun j v e => by rw [← ew] at e; exact (wipe_some e).1), T.keep _ _ _ st7 fun b hb o e => (stay b hb o e).1, fun b hb => ?_, w'⟩
      obtain ⟨o, e, _⟩ := T.obj _ _ st7 b hb
      exact (stay b hb o e).2
  exact PpSet.codeAny_compStart_set loop (T.self X.A 0 _ _ _ st4 loop)
/-- len of such a set -/
theorem call_len_ints : CallR X (.builtin "len") (fun xs H Q => ∃ (a : Addr) (S : Int → Bool) (n : Nat), xs = [.ref a] ∧ H a = some (SetO X.w a S n) ∧ n < 1000000 ∧ Q (.int n) H) := by
  intro pins s σ H xs us Q I r h
  obtain ⟨a, S, n, rfl, ha, hn, q⟩ := h
  obtain ⟨o, es, ep, t, ho, hex, hd, _, _, _, _, hf, hs, _⟩ := setO_get I ha
  cases r with
  | cons r rr =>
    cases rr
    cases r
    exact call_len_set ho hex hd hf (by rw [hs]; omega) ⟨.int n, H, I.tok _, ⟨_, by rw [hs]⟩, q⟩
end
end L2

-- part: D1
namespace Toy
open PySem L2
/-! ### how many unlike ones -/
def dist (l : List Int) : Nat := (l.foldl addU []).length
theorem dist_snoc (l : List Int) (k : Int) : dist (l ++ [k]) = if k ∈ l then dist l else dist l + 1 := by
  unfold dist
  rw [List.foldl_append]
  show (addU (l.foldl addU []) k).length = _
  have m : k ∈ l.foldl addU [] ↔ k ∈ l := by
    have : ∀ (l ks : List Int), k ∈ l.foldl addU ks ↔ k ∈ ks ∨ k ∈ l := by
      intro l
      induction l with
      | nil => intro ks; simp
      | cons a l ih =>
        intro ks
        rw [List.foldl_cons, ih, mem_add, List.mem_cons]
        constructor
        · rintro ((h | h) | h)
          · exact .inl h
          · exact .inr (.inl h)
          · exact .inr (.inr h)
        · rintro (h | h | h)
          · exact .inl (.inl h)
          · exact .inl (.inr h)
          · exact .inr h
    rw [this]
    simp
  generalize l.foldl addU [] = R at *
  unfold addU
  by_cases h : k ∈ l
  · rw [if_pos (m.mpr h), if_pos h]
  · rw [if_neg fun z => h (m.mp z), if_neg h, List.length_append]
    rfl
theorem dist_le : ∀ n : Nat, ∀ l : List Int, l.length = n → dist l ≤ n
  | 0, l, h => by
    rw [List.eq_nil_of_length_eq_zero h]
    exact Nat.le_refl _
  | n + 1, l, h => by
    obtain ⟨r, k, rfl⟩ : ∃ (r : List Int) (k : Int), l = r ++ [k] := ⟨_, _, (List.dropLast_concat_getLast (fun z => by rw [z] at h; cases h)).symm⟩
    have hr : r.length = n := by
      rw [List.length_append] at h
      exact Nat.succ.inj h
    have ih := dist_le n r hr
    rw [dist_snoc]
    split <;> omega
theorem dist_nodup : ∀ n : Nat, ∀ l : List Int, l.length = n → (dist l = n ↔ l.Nodup)
  | 0, l, h => by
    rw [List.eq_nil_of_length_eq_zero h]
    exact ⟨fun _ => List.nodup_nil, fun _ => rfl⟩
  | n + 1, l, h => by
    obtain ⟨r, k, rfl⟩ : ∃ (r : List Int) (k : Int), l = r ++ [k] := ⟨_, _, (List.dropLast_concat_getLast (fun z => by rw [z] at h; cases h)).symm⟩
    have hr : r.length = n := by
      rw [List.length_append] at h
      exact Nat.succ.inj h
    have ih := dist_nodup n r hr
    have le := dist_le n r hr
    rw [dist_snoc, List.nodup_append]
    constructor
    · intro e
      split at e
      · omega
      · rename_i hk
        refine ⟨ih.mp (by omega), by simp, fun a ha b hb => ?_⟩
        rw [List.mem_singleton.mp hb]
        exact fun z => hk (z ▸ ha)
    · rintro ⟨h1, _, h3⟩
      rw [if_neg fun hk => h3 k hk k (List.mem_singleton.mpr rfl) rfl, ih.mpr h1]
/-! ### types -/
def SqA (K : PySem.W.Frag) (H : Hp) (p : Addr) (xs : List V) : Prop := SqL K H p xs ∨ SqT K H p xs
theorem Same.sqt {K : PySem.W.Frag} {H H' : Hp} {a : Addr} {xs : List V} (e : Same H H') (h : SqT K H a xs) : SqT K H' a xs := by
  rcases h with (h | ⟨o, h⟩) | h
  · exact .inl (.inl (e _ _ h))
  · exact .inl (.inr ⟨o, e _ _ h⟩)
  · exact .inr h
theorem SqA.same {K : PySem.W.Frag} {H H' : Hp} {p : Addr} {xs : List V} (e : Same H H') (h : SqA K H p xs) : SqA K H' p xs := h.elim (fun h => .inl (Same.seq e h)) fun h => .inr (Same.sqt e h)
theorem SqA.ty {K : PySem.W.Frag} {H : Hp} {p : Addr} {xs : List V} (h : SqA K H p xs) : ∃ T, TyB K H (.ref p) T ∧ (["list", "tuple"].contains T) = true := h.elim (fun h => ⟨"list", .lst h, by decide⟩) fun h => ⟨"tuple", .tup h, by decide⟩

theorem Kn.tup {K : PySem.W.Frag} {T : String} (h : Kn T) : PySem.W.kitOne K (.type T) (.type "tuple") = some (decide (T = "tuple")) := by
  rcases h with rfl | rfl | rfl | rfl | rfl | rfl | rfl | rfl <;> rfl
theorem Kn.bool {K : PySem.W.Frag} {T : String} (h : Kn T) : PySem.W.kitOne K (.type T) (.type "bool") = some (decide (T = "bool")) := by
  rcases h with rfl | rfl | rfl | rfl | rfl | rfl | rfl | rfl <;> rfl
theorem Kn.int {K : PySem.W.Frag} {T : String} (h : Kn T) : PySem.W.kitOne K (.type T) (.type "int") = some (decide (T = "int" ∨ T = "bool")) := by
  rcases h with rfl | rfl | rfl | rfl | rfl | rfl | rfl | rfl <;> rfl
theorem TyB.x {K : PySem.W.Frag} {H : Hp} {x : V} {T : String} (t : TyB K H x T) : TyX K H x (.type T) := by
  cases t with
  | non => exact .base .non
  | bl b => exact .base (.bl b)
  | int i => exact .base (.int i)
  | str z => exact .base (.str z)
  | byt b => exact .byt b
  | lst h =>
    rcases h with (h | ⟨o, h⟩) | ⟨o, its, n, lk, c, _⟩
    · exact .base (.lst h)
    · exact .base (.frz h)
    · exact .kList lk c
  | tup h =>
    rcases h with (h | ⟨o, h⟩) | ⟨o, its, n, lk, c, _⟩
    · exact .base (.tup h)
    · exact .fTuple h
    · exact .kTuple lk c
  | dK h => exact .base (.dK h)
theorem TyB.same {K : PySem.W.Frag} {H H' : Hp} (e : Same H H') {y : V} {T : String} (t : TyB K H y T) : TyB K H' y T := by
  cases t with
  | non => exact .non
  | bl b => exact .bl b
  | int i => exact .int i
  | str z => exact .str z
  | byt b => exact .byt b
  | lst h => exact .lst (Same.seq e h)
  | tup h => exact .tup (Same.sqt e h)
  | dK h => exact .dK (e _ _ h)
theorem seq_gen {t1 rest : TS} {D : Ends} {σ : St} {H : Hp} (Good : St → Hp → Prop) (h1 : ∀ nx : St → Hp → Prop, (∀ σ' H', Good σ' H' → nx σ' H') → t1 { D with nx := nx } σ H) (h2 : ∀ σ' H', Good σ' H' → rest D σ' H') : tSeq t1 rest D σ H := h1 _ h2
/-- the turns of a comprehension of numbers, whatever it goes over -/
theorem st_it {J : It} {n : Nat} {G : Hp → Prop} {Y : Nat → Hp → V → Hp → Prop} (wk : Walk J n G Y) {w : World} {g : TG} {te : TE} {vs : List Nat} {σ : St} {H1 : Hp} {D : Addr} {Qd : Hp → Prop} (Pv : Nat → Hp → Prop) (h0 : Pv 0 (upd H1 D (SetO w D (fun _ => false) 0)))
    (hG : ∀ i H, i ≤ n → Pv i H → G H) (hs : ∀ i x H H', i < n → Pv i H → Y i H x H' → SetTurn w g te vs σ D (Pv (i + 1)) x H') (hd : ∀ H, Pv n H → Qd H) :
    ∃ W : Nat → Nat → Hp → Prop, (∃ m, W 0 m (upd H1 D (SetO w D (fun _ => false) 0))) ∧
      ∀ i m Hi, W i m Hi → (J.stop i Hi ∧ Qd Hi) ∨ (J.go i Hi ∧ ∃ Nx : Hp → Prop, (∀ H', Nx H' → ∃ m', m' < m ∧ W (i + 1) m' H') ∧ ∀ x H', J.yld i Hi x H' → SetTurn w g te vs σ D Nx x H') := by
  refine ⟨fun i m H => i + m = n ∧ Pv i H, ⟨n, Nat.zero_add n, h0⟩, fun i m Hi ⟨e, p⟩ => ?_⟩
  have st := hG i Hi (by omega) p
  cases m with
  | zero =>
    have e0 : i = n := e
    subst e0
    exact .inl ⟨wk.stops Hi st, hd Hi p⟩
  | succ m => exact .inr ⟨wk.goes i Hi (by omega) st, Pv (i + 1), fun H' p' => ⟨m, Nat.lt_succ_self m, by omega, p'⟩, fun x H' y => hs i x Hi H' (by omega) p (wk.yields i Hi x H' (by omega) st y)⟩
theorem itT {A B : Prop} (h : A) : if True then A else B := by rw [if_pos trivial]; exact h
theorem kn_tup : Kn "tuple" := .inr (.inr (.inr (.inr (.inr (.inl rfl)))))
theorem yesT {σ : St} {H : Hp} {a b : Hp → Prop} (h : a H) : tYes σ H fun b' H3 => if b' = true then a H3 else b H3 := h
end Toy

-- part: M1
namespace Toy
open PySem L2
section
variable {P : Program} {w : World} {K : PySem.W.Frag} {mg : Str → Option Value} {base : Heap}
/-! ### is_turn -/
abbrev sIsMany : Stmt := s__is_many
theorem scIsMany : FnScope ["thing"] ["thing"] (defScope sIsMany) := ⟨rfl, rfl, rfl, by decide +kernel, rfl, by decide +kernel, by decide +kernel⟩
def manyB (m : Int) : Bool := decide (1 ≤ m) && decide (m ≤ 400)
def spIsMany : Sp := fun vs H Q _ => ∃ m, vs = [.int m] ∧ Q (.bl (manyB m)) H
theorem ok_isMany {f fN : Addr} {fd fdN : FuncData} (F : Fun K "_is_many" "_is_many" sIsMany f fd) (B : Bl mg) (N : Df K mg "is_number" sIsNum ["thing"] fN fdN) (gM : ∃ t, mg "MOST" = some (.int 400 t)) : FnOk P w K mg base CX0 2 f fd ["thing"] spIsMany := by
  have GN : FnOk P w K mg base CX0 1 fN fdN ["thing"] (spIsNum K) := ok_isNum N.F B
  obtain ⟨tm, hm⟩ := gM
  refine F.ok scIsMany (fun vs H Q E h => ?_) (fun cdv A outer s H vs Q E hr h => ?_)
  · obtain ⟨m, rfl, _⟩ := h
    rfl
  · obtain ⟨m, rfl, q⟩ := h
    refine ⟨_, pss_one (ps_ret (pe_and (pe_call GN hr rfl N.g N.F.kp N.b .nil pass0 (pa_cons (pv 0) pa_nil)) (pe_one (pe_chain op_le op_le pe_int (pv 0) (pe_glob rfl hm (v := .int 400) ⟨_, rfl⟩))))), ?_⟩
    show tRet _ _ [some (.int m)] H
    walk_at "rd"
    refine ⟨.int m, "int", rfl, .int m, ?_⟩
    unfold manyB at q
    walk_at "rd"
    refine iteT ?_
    by_cases h1 : 1 ≤ m
    · simp only [h1, decide_true, Bool.true_and] at q
      rw [decide_eq_true h1]
      exact iteT q
    · simp only [h1, decide_false, Bool.false_and] at q
      rw [decide_eq_false h1]
      exact iteF q
def absV (x : V) : Int := match x with
  | .int i => absI i
  | _ => 0
def turnB (xs : List V) (m : Int) : Bool := manyB m && (decide ((xs.length : Int) = m) && ((xs.map fun x => letB x m).all id && decide ((xs.map absV).Nodup)))
theorem all_ints {m : Int} : ∀ {xs : List V}, (xs.map fun x => letB x m).all id = true → ∃ L : List Int, xs = L.map V.int ∧ ∀ i ∈ L, 1 ≤ absI i ∧ absI i ≤ m
  | [], _ => ⟨[], rfl, fun _ h => nomatch h⟩
  | x :: r, h => by
    rw [List.map_cons, List.all_cons, Bool.and_eq_true] at h
    obtain ⟨L, e, b⟩ := all_ints h.2
    have h1 : letB x m = true := h.1
    cases x with
    | int i =>
      unfold letB at h1
      rw [Bool.and_eq_true] at h1
      refine ⟨i :: L, by rw [e]; rfl, fun j hj => ?_⟩
      rcases List.mem_cons.mp hj with rfl | hj
      · exact ⟨of_decide_eq_true h1.1, of_decide_eq_true h1.2⟩
      · exact b j hj
    | _ => cases h1
theorem abs_ints (L : List Int) : (L.map V.int).map absV = L.map absI := by
  rw [List.map_map]
  rfl
abbrev sTurn : Stmt := s_is_turn
theorem scTurn : FnScope ["thing", "many", "letter"] ["thing", "many"] (defScope sTurn) := ⟨rfl, rfl, rfl, by decide +kernel, rfl, by decide +kernel, by decide +kernel⟩
/-- a tuple of things of the built-in types, or no tuple -/
def Thing (K : PySem.W.Frag) (H : Hp) (x : V) (c : Option (List V)) : Prop := match c with
  | some xs => ∃ a, x = .ref a ∧ SqT K H a xs ∧ xs.length ≤ 1000 ∧ ∀ y ∈ xs, ∃ T, TyB K H y T
  | none => ∃ T, TyB K H x T ∧ T ≠ "tuple"
theorem Thing.same {H H' : Hp} {x : V} {c : Option (List V)} (e : Same H H') (h : Thing K H x c) : Thing K H' x c := by
  cases c with
  | some xs =>
    obtain ⟨a, h1, h2, h3, h4⟩ := h
    exact ⟨a, h1, Same.sqt e h2, h3, fun y hy => (h4 y hy).imp fun T t => TyB.same e t⟩
  | none =>
    obtain ⟨T, t, n⟩ := h
    exact ⟨T, TyB.same e t, n⟩
def thingB (c : Option (List V)) (m : Int) : Bool := match c with
  | some xs => turnB xs m
  | none => false
def spTurn (K : PySem.W.Frag) : Sp := fun vs H Q _ => ∃ x m c, vs = [x, .int m] ∧ Thing K H x c ∧ ∀ H', Same H H' → Q (.bl (thingB c m)) H'
theorem ok_turn {f fN fL fM : Addr} {fd fdN fdL fdM : FuncData} (F : Fun K "is_turn" "is_turn" sTurn f fd) (B : Bl mg) (N : Df K mg "is_number" sIsNum ["thing"] fN fdN) (L : Df K mg "is_letter" sIsLet ["thing", "many"] fL fdL) (M : Df K mg "_is_many" sIsMany ["thing"] fM fdM)
    (gM : ∃ t, mg "MOST" = some (.int 400 t)) : FnOk P w K mg base CX0 3 f fd ["thing", "many"] (spTurn K) := by
  have GL : FnOk P w K mg base CX0 2 fL fdL ["thing", "many"] (spIsLet K) := ok_isLet L.F B N
  have GM : FnOk P w K mg base CX0 2 fM fdM ["thing"] spIsMany := ok_isMany M.F B N gM
  refine F.ok scTurn (fun vs H Q E h => ?_) (fun cdv A outer s H vs Q E hr h => ?_)
  · obtain ⟨x, m, c, rfl, _⟩ := h
    rfl
  · obtain ⟨x, m, c, rfl, hx, q⟩ := h
    have hu := hu_of hr
    refine ⟨_, pss_cons (ps_if (PW.pt (pw_or (pt_not (pt_val (pe_call GM hr rfl M.g M.F.kp M.b .nil pass0 (pa_cons (pv 1) pa_nil))))
        (pw_or (pt_cmpR op_neT (pe_callTy call_type1 (by rfl) B.type (by decide +kernel) (pa_cons (pv 0) pa_nil)) (pe_bltn (v := .ty "tuple") (by rfl) B.tuple (by decide +kernel) rfl) (nomark _))
        (pw_or1 (pt_cmpR op_ne (pe_callB call_len_seq (by rfl) B.len PySem.boot_len (pa_cons (pv 0) pa_nil)) (pv 1) (nomark _)))))) (pss_one (ps_ret pe_bl)) pss_nil)
      (pss_one (ps_ret (pe_and (pe_callB (cr_all rfl) (by rfl) B.all (by decide +kernel) (pa_cons (pe_lc (own := [("letter", 2)]) (g := gName 2) (tt := tYes) rfl scTurn.nd (pi_tup (pv 0)) (blkOk_by (own := [("letter", 2)]) (N := ["thing", "many", "letter"]) (sc := defScope sTurn) (by decide +kernel))
          (fun _ _ _ _ _ => pg_name (i := 2) scTurn.nd rfl (Or.inl rfl)) (fun _ _ _ _ _ => pts_nil) (fun _ _ _ _ _ => pe_call GL hr rfl L.g L.F.kp L.b .nil pass0 (pa_cons (pv 2) (pa_cons (pv 1) pa_nil)))) pa_nil))
        (pe_one (pe_cmpR op_eq (pe_callB call_len_ints (by rfl) B.len PySem.boot_len (pa_cons (pe_setI (own := [("letter", 2)]) (g := gName 2) (te := tCB (fun xs H Q => ∃ i, xs = [.int i] ∧ Q (.int (if i < 0 then -i else i)) H) (tCons (tVar 2) tNil)) rfl scTurn.nd (pi_tup (pv 0)) (blkOk_by (own := [("letter", 2)]) (N := ["thing", "many", "letter"]) (sc := defScope sTurn) (by decide +kernel))
          (fun _ _ _ _ _ => pg_name (i := 2) scTurn.nd rfl (Or.inl rfl)) (fun _ _ _ _ _ => pe_callB call_abs (by rfl) B.abs (by decide +kernel) (pa_cons (pv 2) pa_nil))) pa_nil)) (pv 1) (nomark _)))))), ?_⟩
    show tSeq _ _ _ [some x, some (.int m), none] H
    refine seq_gen (fun σ' H' => σ' = [some x, some (.int m), none] ∧ H' = H ∧ manyB m = true ∧ ∃ xs, c = some xs ∧ (xs.length : Int) = m) (fun nx hnx => ?_) ?_
    · walk_at "rd"
      refine ⟨m, rfl, ?_⟩
      cases hm : manyB m with
      | false =>
        refine ⟨false, rfl, iteT (itT ?_)⟩
        have e : thingB c m = false := by
          cases c with
          | none => rfl
          | some xs =>
            show turnB xs m = false
            unfold turnB
            rw [hm]
            rfl
        rw [← e]
        exact q H (Same.refl H)
      | true =>
        refine ⟨true, rfl, iteF ?_⟩
        cases c with
        | none =>
          obtain ⟨T, ty, nT⟩ := hx
          refine ⟨x, T, rfl, ty, T, "tuple", rfl, rfl, Kn.ty ty, kn_tup, ?_⟩
          rw [decide_eq_false nT]
          exact iteT (itT (q H (Same.refl H)))
        | some xs =>
          obtain ⟨a, rfl, hs, hl, hy⟩ := hx
          refine ⟨.ref a, "tuple", rfl, .tup hs, "tuple", "tuple", rfl, rfl, kn_tup, kn_tup, ?_⟩
          rw [decide_eq_true rfl]
          refine iteF ⟨a, xs, rfl, .inr hs, rfl, ?_⟩
          by_cases hlen : (xs.length : Int) = m
          · rw [decide_eq_true (congrArg V.int hlen)]
            exact ⟨false, rfl, iteF (hnx _ _ ⟨rfl, rfl, hm, xs, rfl, hlen⟩)⟩
          · rw [decide_eq_false fun z => hlen (V.int.inj z)]
            refine ⟨true, rfl, iteT ?_⟩
            have e : thingB (some xs) m = false := by
              show turnB xs m = false
              unfold turnB
              rw [decide_eq_false hlen, hm]
              rfl
            rw [← e]
            exact q H (Same.refl H)
    rintro σ' H' ⟨rfl, rfl, hm, xs, rfl, hlen⟩
    obtain ⟨a, rfl, hs, hl, hy⟩ := hx
    have mb : 1 ≤ m ∧ m ≤ 400 := by
      unfold manyB at hm
      rw [Bool.and_eq_true] at hm
      exact ⟨of_decide_eq_true hm.1, of_decide_eq_true hm.2⟩
    walk_at "rd"
    refine ⟨_, rfl, a, rfl, ⟨_, hs⟩, fun D hD => lc_tup (K := K) (a := a) (xs := xs) (fun j Hj => Same H' Hj ∧ Hj D = some (.lst ((xs.take j).map fun x => V.bl (letB x m)))) ⟨Same.new hD, upd_same⟩ (fun j Hj _ ⟨e, _⟩ => Same.sqt e hs) ?_ ?_⟩
    · rintro j x Hj hj ⟨ej, hDj⟩
      have hjl : j < xs.length := (List.getElem?_eq_some_iff.mp hj).1
      obtain ⟨T, ty⟩ := hy x (List.mem_of_getElem? hj)
      refine ⟨rfl, yesT ?_⟩
      refine ⟨_, rfl, _, rfl, x, T, m, rfl, TyB.same ej ty, _, hDj, by rw [List.length_map, List.length_take]; exact small1000 (by omega), fun b o hb => ?_, ?_⟩
      · rw [upd_ne (ne_of_none hb hD)]
        exact ej b o hb
      · rw [upd_same, List.take_add_one, hj]
        simp only [Option.toList_some, List.map_append, List.map_cons, List.map_nil]
    rintro H5 ⟨s5, hD5⟩
    rw [List.take_length] at hD5
    refine ⟨D, xs.map fun x => letB x m, rfl, SqL.of (by rw [hD5, List.map_map]; rfl), _, rfl, ?_⟩
    cases hall : (xs.map fun x => letB x m).all id with
    | false =>
      have e : thingB (some xs) m = false := by
        show turnB xs m = false
        unfold turnB
        rw [hall]
        simp
      rw [e] at q
      exact iteF (q H5 s5)
    | true =>
      obtain ⟨L, rfl, hL⟩ := all_ints hall
      rw [List.length_map] at hlen hl
      have hs5 := Same.sqt s5 hs
      refine iteT ⟨_, rfl, a, rfl, ⟨_, hs5⟩, fun D2 hD2 => ?_⟩
      refine st_it walk_tup (fun j Hj => Same H5 Hj ∧ ∃ S, Hj D2 = some (SetO w D2 S (dist ((L.take j).map absI))) ∧ ∀ k, S k = decide (k ∈ (L.take j).map absI)) ⟨Same.new hD2, _, upd_same, fun k => by simp⟩ (fun j Hj _ ⟨e, _⟩ => Same.sqt e hs5) ?_ ?_
      · rintro j x Hj Hk hj ⟨ej, S, hDj, hS⟩ ⟨rfl, hx⟩
        rw [List.getElem?_map] at hx
        cases ez : L[j]? with
        | none => rw [ez] at hx; cases hx
        | some z =>
        rw [ez] at hx
        cases hx
        rw [List.length_map] at hj
        have tk : (L.take (j + 1)).map absI = (L.take j).map absI ++ [absI z] := by
          rw [List.take_add_one, ez]
          simp
        have lt : dist ((L.take j).map absI) ≤ j := by
          have := dist_le _ ((L.take j).map absI) rfl
          rw [List.length_map, List.length_take] at this
          omega
        refine ⟨rfl, _, rfl, z, rfl, absI z, S, _, rfl, hDj, by show _ < 4096; omega, fun b o hb => ?_, (fun k => S k || decide (k = absI z)), ?_, fun k => ?_⟩
        · rw [upd_ne (ne_of_none hb hD2)]
          exact ej b o hb
        · have e : dist ((L.take (j + 1)).map absI) = if S (absI z) = true then dist ((L.take j).map absI) else dist ((L.take j).map absI) + 1 := by
            rw [tk, dist_snoc, hS]
            by_cases h : absI z ∈ (L.take j).map absI
            · rw [if_pos h, decide_eq_true h, if_pos rfl]
            · rw [if_neg h, decide_eq_false h, if_neg (by decide)]
          rw [e]
          exact upd_same
        · show (S k || decide (k = absI z)) = _
          rw [tk, hS, Bool.eq_iff_iff]
          simp
      · rintro H6 ⟨s6, S, hD6, hS⟩
        rw [List.length_map, List.take_length] at hD6
        have dl : dist (L.map absI) ≤ L.length := dist_le _ _ (by rw [List.length_map])
        refine ⟨D2, S, _, rfl, hD6, by omega, rfl, ?_⟩
        have e : thingB (some (L.map V.int)) m = decide (V.int (dist (L.map absI) : Nat) = V.int m) := by
          show turnB _ m = _
          unfold turnB
          rw [hm, hall, abs_ints, List.length_map, decide_eq_true hlen]
          have dn := dist_nodup L.length (L.map absI) (by rw [List.length_map])
          by_cases h : (L.map absI).Nodup
          · rw [decide_eq_true h, decide_eq_true (by rw [dn.mpr h, hlen])]
            rfl
          · rw [decide_eq_false h, decide_eq_false fun z => h (dn.mp (by have := V.int.inj z; omega))]
            rfl
        rw [← e]
        exact q H6 (Same.trans s5 s6)
end
end Toy

-- part: D2
namespace Toy
open PySem L2
/-- 1, 2, .. n -/
def up (n : Nat) : List Int := (List.range n).map fun (i : Nat) => 1 + (i : Int)
theorem up_len (n : Nat) : (up n).length = n := by unfold up; rw [List.length_map, List.length_range]
theorem up_rg (m : Int) (h : 0 ≤ m) : rgV 1 (m + 1) = (up m.toNat).map V.int := by
  unfold rgV up
  rw [List.map_map, show (m + 1 - 1).toNat = m.toNat by omega]
  rfl
theorem up_abs (n : Nat) : (up n).map absI = up n := by
  unfold up
  rw [List.map_map]
  refine List.map_congr_left fun i _ => ?_
  show absI (1 + (i : Int)) = 1 + (i : Int)
  unfold absI
  rw [if_neg (by omega)]
theorem up_mem {n : Nat} {x : Int} : x ∈ up n ↔ 1 ≤ x ∧ x ≤ n := by
  unfold up
  rw [List.mem_map]
  constructor
  · rintro ⟨i, hi, rfl⟩
    have := List.mem_range.mp hi
    omega
  · rintro ⟨h1, h2⟩
    exact ⟨(x - 1).toNat, List.mem_range.mpr (by omega), by omega⟩
theorem up_nodup (n : Nat) : (up n).Nodup := by
  unfold up
  refine List.pairwise_map.mpr ?_
  refine List.Pairwise.imp ?_ (List.nodup_range (n := n))
  intro a b h e
  exact h (by omega)
theorem absI_neg (x : Int) : absI (-x) = absI x := by
  unfold absI
  split <;> split <;> omega
/-- a turn of n truths -/
def Trn (n : Nat) (L : List Int) : Prop := (L.map absI).Perm (up n)
theorem Trn.len {n : Nat} {L : List Int} (h : Trn n L) : L.length = n := by
  have := h.length_eq
  rw [List.length_map, up_len] at this
  exact this
theorem Trn.bd {n : Nat} {L : List Int} (h : Trn n L) {x : Int} (hx : x ∈ L) : 1 ≤ absI x ∧ absI x ≤ n := up_mem.mp (h.mem_iff.mp (List.mem_map.mpr ⟨x, hx, rfl⟩))
theorem Trn.small {n : Nat} {L : List Int} (h : Trn n L) {x : Int} (hx : x ∈ L) : x.natAbs ≤ n := by
  have := (h.bd hx).2
  rw [absI_nat] at this
  omega
theorem trn_up (n : Nat) : Trn n (up n) := by
  unfold Trn
  rw [up_abs]
theorem trn_swap {n : Nat} {L : List Int} (h : Trn n L) {i j : Nat} {a b a' b' : Int} (hi : L[i]? = some a) (hj : L[j]? = some b) (ea : absI a' = absI a) (eb : absI b' = absI b) : Trn n ((L.set i b').set j a') := by
  obtain ⟨i1, e1⟩ := List.getElem?_eq_some_iff.mp hi
  obtain ⟨j1, e2⟩ := List.getElem?_eq_some_iff.mp hj
  unfold Trn
  rw [List.map_set, List.map_set, ea, eb, ← e1, ← e2]
  have p := List.set_set_perm (as := L.map absI) (i := i) (j := j) (by rw [List.length_map]; exact i1) (by rw [List.length_map]; exact j1)
  rw [List.getElem_map, List.getElem_map] at p
  exact p.trans h
theorem trn_neg {n : Nat} {L : List Int} (h : Trn n L) {i : Nat} {a a' : Int} (hi : L[i]? = some a) (ea : absI a' = absI a) : Trn n (L.set i a') := by
  obtain ⟨i1, e1⟩ := List.getElem?_eq_some_iff.mp hi
  unfold Trn
  rw [List.map_set, ea, ← e1]
  have e : (L.map absI).set i (absI L[i]) = L.map absI := by
    have := List.set_getElem_self (as := L.map absI) (i := i) (by rw [List.length_map]; exact i1)
    rw [List.getElem_map] at this
    exact this
  rw [e]
  exact h
theorem trn_rot {n k : Nat} {L : List Int} (h : Trn n L) : Trn n (L.drop k ++ L.take k) := by
  unfold Trn
  rw [List.map_append]
  refine List.Perm.trans List.perm_append_comm ?_
  rw [← List.map_append, List.take_append_drop]
  exact h
theorem cut_ints (L : List Int) (lo hi : Option Int) : ∃ a b, cutV (L.map V.int) lo hi = ((L.drop a).take b).map V.int := by
  unfold cutV
  exact ⟨_, _, by rw [List.map_take, List.map_drop]⟩
theorem cut_from (L : List Int) (k : Nat) (h : k ≤ L.length) : cutV (L.map V.int) (some (k : Int)) none = (L.drop k).map V.int := by
  unfold cutV
  have e1 : HT.sIx (L.map V.int).length 0 (some (k : Int)) = k := by
    unfold HT.sIx
    rw [List.length_map]
    simp only
    split <;> omega
  have e2 : HT.sIx (L.map V.int).length (L.map V.int).length none = L.length := by
    unfold HT.sIx
    rw [List.length_map]
  rw [e1, e2, List.map_drop]
  refine List.take_of_length_le ?_
  rw [List.length_drop, List.length_map]
  exact Nat.le_refl _
theorem cut_to (L : List Int) (k : Nat) (h : k ≤ L.length) : cutV (L.map V.int) none (some (k : Int)) = (L.take k).map V.int := by
  unfold cutV
  have e1 : HT.sIx (L.map V.int).length (L.map V.int).length (some (k : Int)) = k := by
    unfold HT.sIx
    rw [List.length_map]
    simp only
    split <;> omega
  have e2 : HT.sIx (L.map V.int).length 0 none = 0 := by
    unfold HT.sIx
    rfl
  rw [e1, e2, List.drop_zero, Nat.sub_zero, List.map_take]
end Toy

-- part: SK6
namespace L2
open PySem PySem.Spec PyProof.Rows
section
variable {prog : Program} {w : World} {A : Around} {E : Value → Shared → Prop} {s : Shared}
/-- the items of a tuple, collected -/
theorem collect_tupK {t : Addr} {us : List Value} {Q : List Value → Shared → Prop} (ht : IsTup s.heap t us.toArray) (hz : us.length ≤ sizeLine)
    (q : Q us { s with heap := (s.heap.push (seqObj "list" #[] 0)).update s.heap.objs.size (Obj.mapSeq (· ++ us.toArray)) }) : wpAny (model prog w) A (collect (.ref t)) Q E s := by
  obtain ⟨o, ho, hc, n, hd⟩ := id ht
  have ho2 : (s.heap.push (seqObj "list" #[] 0)).get? t = some o := Heap.get?_push_of_some _ ho
  have fits : ((#[] : Array Value) ++ us.toArray).size ≤ sizeLine + 1 := by simp only [Array.size_append, List.size_toArray, List.length_nil]; omega
  unfold collect
  refine wpAny_bind (wpAny_runValue (codeAny_builtin entry_proto_collect' ?_))
  show wpAny _ _ (newList [] >>= fun r => again (.builtin "list.__iadd__" ⟨[r, .ref t], []⟩)) _ _ s
  refine wpAny_bind (wpAny_newList (wpAny_pure ⟨Code.quiet_builtin _ (by decide +kernel), codeAny_builtin entry_list_iadd' ?_⟩))
  show wpAny _ _ (Builtin.List.listExtendWith (.ref s.heap.objs.size) (.ref t) (.ref s.heap.objs.size)) _ _ { s with heap := s.heap.push (seqObj "list" #[] 0) }
  unfold Builtin.List.listExtendWith
  refine wpAny_bind (wpAny_typeOf (T := "tuple") ⟨o, ho2, hc⟩ ?_)
  rw [if_pos (by rw [show (Value.type "tuple" == Value.type "tuple") = true from rfl, Bool.or_true])]
  refine wpAny_bind (listItems_at ho2 hd (wpAny_bind (listItems_at (xs := #[]) (n := 0) (Heap.get?_push_size _ rfl) rfl ?_)))
  rw [if_neg (by simp)]
  refine wpAny_bind (listUpdate_at (xs := #[]) (n := 0) (Heap.get?_push_size _ rfl) rfl ?_ (Nat.zero_le _) fits)
  refine wpAny_pure (wpAny_bind (wpAny_load (get?_update_seq (Heap.get?_push_size _ rfl) _) ?_))
  have e : ((#[] : Array Value) ++ us.toArray).toList = us := by simp
  show wpAny _ _ (pure ((#[] : Array Value) ++ us.toArray).toList) Q E _
  rw [e]
  exact wpAny_pure q
end
def rSortUd (K : PySem.W.Frag) (rel : V → Hp → VK → Prop) : V → Hp → VK → Prop := fun x H Q => ∃ a xs, x = .ref a ∧ SqT K H a xs ∧ SortGo K rel xs H Q
theorem run_tup {X : Cx} {f : Value} {rel : V → Hp → VK → Prop} {P : List (Addr × Obj)} (hu : X.A.units + 100 < cLine) (hf : KeyRel X P f rel) (ht : ∀ a : Addr, Builtin.«list.sort» ⟨[.ref a], [(Str.ofString "key", f)]⟩ = ksk_tree a f false) : RunS X P f (rSortUd X.K rel) := by
  intro pins s σ H x u Q hP I r ⟨a, xs, ex, hs, g⟩
  cases ex
  cases r
  obtain ⟨its, rv, hl, hz⟩ := I.tuple hs
  have hz' : its.length ≤ sizeLine := by rw [← rv.length]; exact hz
  refine call_function_entry_kw kind_sorted plain_sorted entry_sorted (ksk_s1 _ _) ?_
  unfold Builtin.«sorted»
  refine wpAny_bind (m := checkCount "sorted" 1 1 _) (wpAny_pure (wpAny_bind (collect_tupK hl hz' ?_)))
  have I1 : Inv X pins σ H { s with heap := (s.heap.push (seqObj "list" #[] 0)).update s.heap.objs.size (Obj.mapSeq (· ++ its.toArray)) } := I.kept (t' := s.toks) fun b o e => by
    rw [Heap.get?_update_ne _ _ _ _ (Nat.ne_of_lt (Heap.lt_size e))]
    exact Heap.get?_push_of_some _ e
  exact sort_go hu I1 rv hz' g (hf.mono hP) ht fun v s' h => ⟨v, rfl, h⟩
end L2

-- part: W1
namespace Toy
open PySem L2
section
variable {P : Program} {w : World} {K : PySem.W.Frag} {mg : Str → Option Value} {base : Heap}
theorem p_ixT {H : Hp} {Q : VK} {p : Addr} {xs : List V} {i : Int} {v : V} (h : SqT K H p xs) (e : atI xs i = some v) (q : Q v H) : rIxT K (.ref p) (.int i) H Q := ⟨p, xs, i, v, rfl, rfl, h, e, q⟩
/-- what a letter goes to -/
def gL (L : List Int) (l : Int) : Int := if l > 0 then L.getD (l - 1).toNat 0 else -(L.getD (-l - 1).toNat 0)
theorem at_nat {L : List Int} {j : Nat} (h : j < L.length) : atI (L.map V.int) (j : Int) = some (V.int (L.getD j 0)) := atI_nat (by rw [List.getElem?_map, List.getElem?_eq_getElem h, List.getD_eq_getElem?_getD, List.getElem?_eq_getElem h]; rfl)
theorem at_pos {L : List Int} {l : Int} (h1 : 1 ≤ absI l) (h2 : absI l ≤ L.length) (p : l > 0) : atI (L.map V.int) (l - 1) = some (V.int (gL L l)) := by
  unfold absI at h1 h2
  rw [if_neg (by omega)] at h1 h2
  obtain ⟨j, e⟩ := Int.eq_ofNat_of_zero_le (by omega : 0 ≤ l - 1)
  rw [e, at_nat (by omega)]
  unfold gL
  rw [if_pos p, e, Int.toNat_natCast]
theorem at_neg {L : List Int} {l : Int} (h1 : 1 ≤ absI l) (h2 : absI l ≤ L.length) (p : ¬ l > 0) : atI (L.map V.int) (-l - 1) = some (V.int (-(gL L l))) := by
  unfold absI at h1 h2
  have hl : l < 0 := by
    by_cases z : l < 0
    · exact z
    · rw [if_neg z] at h1
      omega
  rw [if_pos hl] at h1 h2
  obtain ⟨j, e⟩ := Int.eq_ofNat_of_zero_le (by omega : 0 ≤ -l - 1)
  rw [e, at_nat (by omega)]
  unfold gL
  rw [if_neg p, e, Int.toNat_natCast, Int.neg_neg]
theorem gL_abs {n : Nat} {L : List Int} (t : Trn n L) {l : Int} (h1 : 1 ≤ absI l) (h2 : absI l ≤ n) : 1 ≤ absI (gL L l) ∧ absI (gL L l) ≤ n := by
  have ll := t.len
  unfold gL
  by_cases p : l > 0
  · rw [if_pos p]
    have : absI l = l := by unfold absI; rw [if_neg (by omega)]
    have hj : (l - 1).toNat < L.length := by omega
    rw [List.getD_eq_getElem?_getD, List.getElem?_eq_getElem hj]
    exact t.bd (List.getElem_mem hj)
  · rw [if_neg p, absI_neg]
    have hj : (-l - 1).toNat < L.length := by
      unfold absI at h1 h2
      by_cases z : l < 0
      · rw [if_pos z] at h1 h2
        omega
      · rw [if_neg z] at h1
        omega
    rw [List.getD_eq_getElem?_getD, List.getElem?_eq_getElem hj]
    exact t.bd (List.getElem_mem hj)
def spGoes (K : PySem.W.Frag) : Sp := fun vs H Q _ => ∃ (a : Addr) (L : List Int) (l : Int), vs = [.ref a, .int l] ∧ SqT K H a (L.map V.int) ∧ 1 ≤ absI l ∧ absI l ≤ L.length ∧ Q (.int (gL L l)) H
abbrev sLGoes : Stmt := s__law_goes
theorem scLGoes : FnScope ["turn", "letter"] ["turn", "letter"] (defScope sLGoes) := ⟨rfl, rfl, rfl, by decide +kernel, rfl, by decide +kernel, by decide +kernel⟩
theorem ok_lgoes {f : Addr} {fd : FuncData} (F : Fun K "_law_goes" "_law_goes" sLGoes f fd) : FnOk P w K mg base CX0 1 f fd ["turn", "letter"] (spGoes K) := by
  refine F.ok scLGoes (fun vs H Q E h => ?_) (fun cdv A outer s H vs Q E hr h => ?_)
  · obtain ⟨a, L, l, rfl, _⟩ := h
    rfl
  · obtain ⟨a, L, l, rfl, hs, h1, h2, q⟩ := h
    refine ⟨_, pss_one (ps_ret (pe_ifExp (pt_cmpR op_gt (pv 1) pe_int (nomark _)) (pe_ix ix_tup (pv 0) (pe_op op_sub (pv 1) pe_int) (fun _ _ => rfl)) (pe_un un_neg (pe_ix ix_tup (pv 0) (pe_op op_sub (pe_un un_neg (pv 1)) pe_int) (fun _ _ => rfl))))), ?_⟩
    show tRet _ _ [some (.ref a), some (.int l)] H
    walk_at "rd"
    by_cases p : l > 0
    · rw [decide_eq_true p]
      exact iteT (p_ixT hs (at_pos h1 h2 p) q)
    · rw [decide_eq_false p]
      refine iteF (p_ixT hs (at_neg h1 h2 p) ⟨_, rfl, ?_⟩)
      show Q (V.int (- -(gL L l))) _
      rw [Int.neg_neg]
      exact q
abbrev sGoes : Stmt := s_goes
theorem scGoes : FnScope ["turn", "letter"] ["turn", "letter"] (defScope sGoes) := ⟨rfl, rfl, rfl, by decide +kernel, rfl, by decide +kernel, by decide +kernel⟩
theorem ok_goes {f : Addr} {fd : FuncData} (F : Fun K "goes" "goes" sGoes f fd) (B : Bl mg) : FnOk P w K mg base CX0 1 f fd ["turn", "letter"] (spGoes K) := by
  refine F.ok scGoes (fun vs H Q E h => ?_) (fun cdv A outer s H vs Q E hr h => ?_)
  · obtain ⟨a, L, l, rfl, _⟩ := h
    rfl
  · obtain ⟨a, L, l, rfl, hs, h1, h2, q⟩ := h
    refine ⟨_, pss_cons (ps_if (pt_not (pt_chain op_le op_le pe_int (pe_callB call_abs (by rfl) B.abs (by decide +kernel) (pa_cons (pv 1) pa_nil)) (pe_callB call_len_seq (by rfl) B.len PySem.boot_len (pa_cons (pv 0) pa_nil)))) (pss_one (ps_ret (pv 1))) pss_nil)
      (pss_one (ps_ret (pe_ifExp (pt_cmpR op_gt (pv 1) pe_int (nomark _)) (pe_ix ix_tup (pv 0) (pe_op op_sub (pv 1) pe_int) (fun _ _ => rfl)) (pe_un un_neg (pe_ix ix_tup (pv 0) (pe_op op_sub (pe_un un_neg (pv 1)) pe_int) (fun _ _ => rfl)))))), ?_⟩
    show tSeq _ _ _ [some (.ref a), some (.int l)] H
    refine seq_gen (fun σ' H' => σ' = [some (.ref a), some (.int l)] ∧ H' = H) (fun nx hnx => ?_) ?_
    · walk_at "rd"
      have e : decide (1 ≤ if l < 0 then -l else l) = true := decide_eq_true h1
      have e2 : decide ((if l < 0 then -l else l) ≤ ((L.map V.int).length : Int)) = true := decide_eq_true (by rw [List.length_map]; exact h2)
      rw [e]
      refine iteT ⟨a, _, rfl, .inr hs, ?_⟩
      rw [e2]
      exact iteF (hnx _ _ ⟨rfl, rfl⟩)
    rintro σ' H' ⟨rfl, rfl⟩
    walk_at "rd"
    by_cases p : l > 0
    · rw [decide_eq_true p]
      exact iteT (p_ixT hs (at_pos h1 h2 p) q)
    · rw [decide_eq_false p]
      refine iteF (p_ixT hs (at_neg h1 h2 p) ⟨_, rfl, ?_⟩)
      show Q (V.int (- -(gL L l))) _
      rw [Int.neg_neg]
      exact q
/-! ### no turn is refused -/
theorem turnB_of {n : Nat} {L : List Int} (t : Trn n L) (h1 : 1 ≤ n) (h4 : n ≤ 400) : turnB (L.map V.int) (L.length : Int) = true := by
  have ll := t.len
  unfold turnB manyB
  rw [List.length_map, ll, decide_eq_true (by omega : (1 : Int) ≤ (n : Int)), decide_eq_true (by omega : (n : Int) ≤ 400), decide_eq_true rfl, abs_ints, decide_eq_true ((t.nodup_iff).mpr (up_nodup n))]
  simp only [Bool.true_and, Bool.and_true]
  rw [List.map_map, List.all_eq_true]
  intro y hy
  obtain ⟨i, hi, rfl⟩ := List.mem_map.mp hy
  have b := t.bd hi
  show (decide (1 ≤ absI i) && decide (absI i ≤ (n : Int))) = true
  rw [decide_eq_true b.1, decide_eq_true b.2]
  rfl
theorem thing_ints {H : Hp} {a : Addr} {L : List Int} (h : SqT K H a (L.map V.int)) (l : L.length ≤ 1000) : Thing K H (.ref a) (some (L.map V.int)) :=
  ⟨a, rfl, h, by rw [List.length_map]; exact l, fun y hy => by
    obtain ⟨i, _, rfl⟩ := List.mem_map.mp hy
    exact ⟨_, .int i⟩⟩
def spRef (K : PySem.W.Frag) : Sp := fun vs H Q _ => ∃ (a : Addr) (n : Nat) (L : List Int), vs = [.ref a] ∧ SqT K H a (L.map V.int) ∧ Trn n L ∧ 1 ≤ n ∧ n ≤ 400 ∧ ∀ H', Same H H' → Q .non H'
/-! ### clauses and parts -/
abbrev nClG : List Str := ["turn", "clause", "letter"]
theorem u100 {k : Nat} {A : Around} (hr : Room k A) : A.units + 100 < cLine := by have := hr.un; omega
def spClG (K : PySem.W.Frag) : Sp := fun vs H Q _ => ∃ (a c : Addr) (n : Nat) (L C : List Int), vs = [.ref a, .ref c] ∧ SqT K H a (L.map V.int) ∧ Trn n L ∧ SqT K H c (C.map V.int) ∧ C.length ≤ 1000 ∧ (∀ l ∈ C, 1 ≤ absI l ∧ absI l ≤ n) ∧
  ∀ (b : Addr) (S : List Int) (H' : Hp), Same H H' → S.Perm (C.map (gL L)) → S.Pairwise (fun x y => absI x ≤ absI y) → H' b = some (.tup (S.map V.int)) → Q (.ref b) H'
def spOfL (K : PySem.W.Frag) : Sp := fun vs H Q _ => ∃ (a : Addr) (n : Nat) (L : List Int) (l : Int), vs = [.ref a, .int l] ∧ SqT K H a (L.map V.int) ∧ Trn n L ∧ 1 ≤ n ∧ n ≤ 400 ∧ 1 ≤ absI l ∧ absI l ≤ n ∧ ∀ H', Same H H' → Q (.int (gL L l)) H'
def spOfC (K : PySem.W.Frag) : Sp := fun vs H Q E => ∃ n : Nat, 1 ≤ n ∧ n ≤ 400 ∧ ∃ (a c : Addr) (L C : List Int), vs = [.ref a, .ref c] ∧ SqT K H a (L.map V.int) ∧ Trn n L ∧ SqT K H c (C.map V.int) ∧ C.length ≤ 1000 ∧ (∀ l ∈ C, 1 ≤ absI l ∧ absI l ≤ n) ∧
  ∀ (b : Addr) (S : List Int) (H' : Hp), Same H H' → S.Perm (C.map (gL L)) → S.Pairwise (fun x y => absI x ≤ absI y) → H' b = some (.tup (S.map V.int)) → Q (.ref b) H'
abbrev nOfP : List Str := ["turn", "part", "letter"]
def spOfP (K : PySem.W.Frag) : Sp := fun vs H Q E => ∃ n : Nat, 1 ≤ n ∧ n ≤ 400 ∧ ∃ (a c : Addr) (L C : List Int), vs = [.ref a, .ref c] ∧ SqT K H a (L.map V.int) ∧ Trn n L ∧ SqT K H c (C.map V.int) ∧ C.length ≤ 1000 ∧ (∀ l ∈ C, 1 ≤ absI l ∧ absI l ≤ n) ∧
  ∀ (b : Addr) (H' : Hp), Same H H' → H' b = some (.tup ((C.map (gL L)).map V.int)) → Q (.ref b) H'
end
end Toy

-- part: RT1
namespace L2
open PySem PySem.Spec PySem.Calls PyProof.Rows HT
section
variable {prog : Program} {w : World} {A : Around} {E : Value → Shared → Prop} {s : Shared}
theorem adjust_back (n : Nat) : Builtin.Slice.sliceAdjust none none (-1) (n : Int) = ((n : Int) - 1, -1) := rfl
theorem places_back (n : Nat) : Builtin.Slice.slicePlaces ((n : Int) - 1) (-1) (-1) = n := by
  unfold Builtin.Slice.slicePlaces
  rw [if_neg (by decide : ¬ ((-1 : Int) > 0))]
  by_cases h : (n : Int) - 1 > -1
  · rw [if_pos h]
    show (((n : Int) - 1 - -1 - 1) / 1 + 1).toNat = n
    rw [Int.ediv_one]
    omega
  · rw [if_neg h]
    show (0 : Int).toNat = n
    omega
theorem fm_congr {α β : Type} {f g : α → Option β} : ∀ {l : List α}, (∀ x ∈ l, f x = g x) → l.filterMap f = l.filterMap g
  | [], _ => rfl
  | x :: l, h => by
    rw [List.filterMap_cons, List.filterMap_cons, h x List.mem_cons_self, fm_congr fun y hy => h y (List.mem_cons_of_mem _ hy)]
theorem picked_back (xs : Array Value) : ((List.range xs.size).filterMap fun (m : Nat) => xs[((xs.size : Int) - 1 + (m : Int) * -1).toNat]?) = xs.toList.reverse := by
  have e1 : ((List.range xs.size).filterMap fun (m : Nat) => xs[((xs.size : Int) - 1 + (m : Int) * -1).toNat]?) = (((List.range xs.size).map fun k => xs.size - 1 - k).filterMap fun i => xs[i]?) := by
    rw [List.filterMap_map]
    refine fm_congr fun m hm => ?_
    have := List.mem_range.mp hm
    show xs[((xs.size : Int) - 1 + (m : Int) * -1).toNat]? = xs[xs.size - 1 - m]?
    have e : ((xs.size : Int) - 1 + (m : Int) * -1).toNat = xs.size - 1 - m := by omega
    rw [e]
  rw [e1, PySem.W.krv_range, List.filterMap_reverse, PySem.W.krv_all]
theorem applied_back {sl : Addr} {t : Tok} {n : Nat} {Q : Int × Int × Nat → Shared → Prop} (hs : s.heap.IsSliceOf sl .none .none (.int (-1) t)) (q : Q ((n : Int) - 1, -1, n) s) : wpAny (model prog w) A (Builtin.Slice.sliceApplied (.ref sl) (pure (n : Int))) Q E s := by
  obtain ⟨o, ho, _, hd⟩ := id hs
  unfold Builtin.Slice.sliceApplied Builtin.Slice.sliceFields
  refine wpAny_bind (wpAny_bind (wpAny_field ho hd (x := .none) rfl (wpAny_bind (wpAny_field ho hd (x := .none) rfl (wpAny_bind (wpAny_field ho hd (x := .int (-1) t) rfl (wpAny_pure ?_)))))))
  refine wpAny_bind (slicePart_int ?_)
  show wpAny _ _ (if ((-1 : Int) == 0) = true then _ else _) _ _ s
  rw [if_neg (by decide)]
  refine wpAny_bind (slicePart_none (wpAny_bind (slicePart_none (wpAny_bind (wpAny_pure ?_)))))
  show wpAny _ _ (pure ((Builtin.Slice.sliceAdjust none none (-1) (n : Int)).1, (-1 : Int), Builtin.Slice.slicePlaces (Builtin.Slice.sliceAdjust none none (-1) (n : Int)).1 (Builtin.Slice.sliceAdjust none none (-1) (n : Int)).2 (-1))) _ _ s
  rw [adjust_back]
  show wpAny _ _ (pure ((n : Int) - 1, (-1 : Int), Builtin.Slice.slicePlaces ((n : Int) - 1) (-1) (-1))) _ _ s
  rw [places_back]
  exact wpAny_pure q
theorem back_tuple {t sl : Addr} {items : Array Value} {k : Tok} {Q : Value → Shared → Prop} (ht : IsTup s.heap t items) (hs : s.heap.IsSliceOf sl .none .none (.int (-1) k)) (hz : items.size ≤ sizeLine)
    (q : Q (.ref s.heap.objs.size) { s with heap := s.heap.push { cls := .type "tuple", data := .seq items.toList.reverse.toArray } }) : wpAny (model prog w) A (getItem (.ref t) (.ref sl)) Q E s := by
  obtain ⟨o, ho, hc, _⟩ := id hs
  have isSl : s.TypeIs (.ref sl) "slice" := ⟨o, ho, hc⟩
  have fits : sizeOk (.seq items.toList.reverse.toArray) := by
    show items.toList.reverse.toArray.size ≤ sizeLine
    rw [List.size_toArray, List.length_reverse, Array.length_toList]
    exact hz
  unfold getItem
  try with_reducible refine wpAny_holding ?_
  first | refine wpAny_bind (wpAny_pure ?_) | skip
  refine wpAny_bind (wpAny_sequenceKey ht.typeIs (by decide) (wpAny_bind (wpAny_callSpecial?_slot (name := Str.ofString "__getitem__") ht.typeIs slot_tuple_getitem (wpAny_call_entry slot_tuple_getitem ht.typeIs entry_tuple_getitem ?_ (args_tuple_getitem _ _)))))
  show wpAny _ _ (Builtin.Tuple.tupleItemsOf (.ref t) >>= _) _ _ s
  refine wpAny_bind (tupleItemsOf_ ht (wpAny_bind (wpAny_typeOf isSl ?_)))
  rw [if_pos (by decide)]
  refine wpAny_bind (applied_back hs ?_)
  show wpAny _ _ (if (((items.size : Int) - 1 == 0 && (-1 : Int) == 1) && items.size == items.size) = true then _ else _) _ _ s
  rw [if_neg (by rw [show ((-1 : Int) == 1) = false from rfl, Bool.and_false, Bool.false_and]; exact Bool.false_ne_true), picked_back]
  first
    | exact wpAny_bind (m := Builtin.Tuple.tupleExact _) (wpAny_newObj_type (wpAny_pure ⟨_, rfl, wpAny_pure q⟩) fits)
    | exact wpAny_bind (m := Builtin.Tuple.tupleExact _) (wpAny_newObj_type (wpAny_bind (wpAny_pure (wpAny_pure ⟨_, rfl, wpAny_pure q⟩))) fits)
    | exact wpAny_bind (wpAny_bind (m := Builtin.Tuple.tupleExact _) (wpAny_newObj_type (wpAny_pure (wpAny_pure ⟨_, rfl, wpAny_pure q⟩)) fits))
    | exact wpAny_bind (wpAny_bind (m := Builtin.Tuple.tupleExact _) (wpAny_newObj_type (wpAny_pure ⟨_, rfl, wpAny_pure q⟩) fits))
end
/-- t[::-1], t a tuple -/
def tRevT (K : PySem.W.Frag) (te : TE) : TE := fun σ H Q => te σ H fun x H1 => ∃ a xs, x = .ref a ∧ SqT K H1 a xs ∧ ∀ p, H1 p = none → Q (.ref p) (upd H1 p (.tup xs.reverse))
theorem pe_revT {X : Cx} {e : Expr} {te : TE} {k : Nat} {p1 p2 p3 pos : Pos} (he : PE X e te) : PE X (.Subscript e (.Slice none none (some (.UnaryOp .USub (.Constant (.int 1) k p1) p2)) p3) pos) (tRevT X.K te) := by
  refine ⟨fun pins s σ H Q I h => Subscript_ (thn (he.run pins s σ H _ I h) fun v s1 ⟨x, H1, I1, r1, a, xs, ex, hx, q⟩ => ?_)⟩
  cases ex
  cases r1
  have step : PO X (some (.UnaryOp .USub (.Constant (.int 1) k p1) p2)) (tPart (tUn (rU fun i => .int (-i)) (tC (.int 1)))) := po_some (pe_un un_neg pe_int)
  refine wpAny_Slice (thn (po_none.run pins s1 σ H1 (fun o H2 => o = none ∧ H2 = H1) I1 ⟨rfl, rfl⟩) fun ua s2 ⟨_, _, I2, part1, e1, e2⟩ => thn (po_none.run pins s2 σ H1 (fun o H3 => o = none ∧ H3 = H1) (e2 ▸ I2) ⟨rfl, rfl⟩) fun ub s3 ⟨_, _, I3, part2, e3, e4⟩ =>
    thn (step.run pins s3 σ H1 (fun o H4 => o = some (-1) ∧ H4 = H1) (e4 ▸ I3) ⟨1, rfl, -1, rfl, rfl, rfl⟩) fun uc s4 ⟨_, _, I4, part3, e5, e6⟩ => ?_)
  subst e1 e3 e5 e6
  cases part1
  cases part2
  cases part3
  have I5 := I4.kept (h' := s4.heap.push { cls := .type "slice", data := .fields #[.none, .none, .int (-1) ‹Tok›] }) (t' := s4.toks) fun b ob q => Heap.get?_push_of_some _ q
  obtain ⟨its, r, ht, hz⟩ := I5.tuple hx
  have hlen := r.length
  refine tail_any (ops := [.ref a, .ref s4.heap.objs.size]) ht.typeIs slot_tuple_getitem.lookup (back_tuple ht (Heap.IsSliceOf.new _ _ _ _) (by rw [List.size_toArray]; omega) ?_) (by with_unfolding_all rfl)
  refine ⟨.ref _, _, I5.laid (t' := s4.toks) (o := .tup xs.reverse) (fun b ob q => Heap.get?_push_of_some _ q) (Nat.le_refl _) ⟨?_, _, r.reverse, IsTup.new _ _⟩, rfl, q _ (I5.hok.fresh (Nat.le_refl _))⟩
  rw [List.length_reverse]
  exact hz
end L2

-- part: M2
namespace Toy
open PySem L2
section
variable {P : Program} {w : World} {K : PySem.W.Frag} {mg : Str → Option Value} {base : Heap}
abbrev sLTu : Stmt := s__law_turn
abbrev nLTu : List Str := ["draw", "many", "sort", "one", "other", "found", "pool", "k", "truth"]
theorem scLTu : FnScope nLTu ["draw", "many"] (defScope sLTu) := ⟨rfl, rfl, rfl, by decide +kernel, rfl, by decide +kernel, by decide +kernel⟩
def spLTu (K : PySem.W.Frag) : Sp := fun vs H Q _ => ∃ d m sc ns, vs = [.ref d, .int m] ∧ 1 ≤ m ∧ m ≤ 400 ∧ DrA K sc ns H d ∧
  ∀ (a : Addr) (L : List Int) (H' : Hp), Trn m.toNat L → Ex d H H' → DrA K sc ns H' d → H' a = some (.tup (L.map V.int)) → H a = none → Q (.ref a) H'
theorem none_back {d sc a : Addr} {ns : List Int} {H H' : Hp} (e : Ex d H H') (D : DrA K sc ns H' d) (ha : H' a = none) : H a = none := by
  cases h : H a with
  | none => rfl
  | some o =>
    have := e a o h (D.nd ha)
    rw [ha] at this
    cases this
theorem ixN_nat {n j : Nat} (h : j < n) : ixN n (j : Int) = some j := by
  unfold ixN
  rw [if_pos (by omega), if_pos (by omega), Int.toNat_natCast]
theorem get_int {L : List Int} {j : Nat} (h : j < L.length) : ∃ y, L[j]? = some y ∧ atI (L.map V.int) (j : Int) = some (V.int y) := ⟨L[j], List.getElem?_eq_getElem h, atI_nat (by rw [List.getElem?_map, List.getElem?_eq_getElem h]; rfl)⟩
theorem map_erase {α β : Type} (f : α → β) : ∀ (l : List α) (k : Nat), (l.map f).eraseIdx k = (l.eraseIdx k).map f
  | [], _ => rfl
  | _ :: _, 0 => rfl
  | x :: l, k + 1 => by
    show f x :: (l.map f).eraseIdx k = f x :: (l.eraseIdx k).map f
    rw [map_erase f l k]
theorem seqIx {k n : Nat} (h : k < n) : seqIndex? (k : Int) n = some k := by
  unfold seqIndex?
  have h0 : ¬ ((k : Int) < 0) := by omega
  have h1 : decide ((k : Int) < (n : Int)) = true := decide_eq_true (by omega)
  have h2 : decide (0 ≤ (k : Int)) = true := decide_eq_true (by omega)
  simp only [h0, if_false, h1, h2, Bool.and_self, if_true, Int.toNat_natCast]
theorem if_eq {k : Int} {A B : TS} {D : Ends} {σ : St} {H : Hp} (h : σ[2]? = some (some (.int k))) (q : A D σ H) : tIfS (tTest (tOp rEq (tVar 2) (tC (.int k)))) A B D σ H := ⟨_, h, rfl, true, by rw [decide_eq_true rfl], iteT q⟩
theorem if_ne {k r : Int} {A B : TS} {D : Ends} {σ : St} {H : Hp} (h : σ[2]? = some (some (.int r))) (n : r ≠ k) (q : B D σ H) : tIfS (tTest (tOp rEq (tVar 2) (tC (.int k)))) A B D σ H := ⟨_, h, rfl, false, by rw [decide_eq_false fun e => n (V.int.inj e)], iteF q⟩
def tPopAt (K : PySem.W.Frag) : TE := tBM K "list" rPopAt (tVar 6) (tCons (tCall (spNext K) [] E0 (tCons (tVar 0) (tCons (tCB (fun xs H Q => ∃ p ys, xs = [.ref p] ∧ (SqL K H p ys ∨ SqT K H p ys) ∧ Q (.int ys.length) H) (tCons (tVar 6) tNil)) tNil))) tNil)
def tSign (K : PySem.W.Frag) : TE := tOp (rIxL K) (tLst (tCons (tVar 8) (tCons (tUn (rU fun i => .int (-i)) (tVar 8)) tNil))) (tCall (spNext K) [] E0 (tCons (tVar 0) (tCons (tC (V.int 2)) tNil)))
theorem ok_ltu {f fM fX : Addr} {fd fdM fdX : FuncData} (F : Fun K "_law_turn" "_law_turn" sLTu f fd) (B : Bl mg) (M : Df K mg "_law_mixed" sMixed ["cell", "k"] fM fdM) (X : Df K mg "_law_next" sNext ["draw", "size"] fX fdX) :
    FnOk P w K mg base CX0 3 f fd ["draw", "many"] (spLTu K) := by
  have GX : FnOk P w K mg base CX0 2 fX fdX ["draw", "size"] (spNext K) := ok_next X.F B M
  refine F.ok scLTu (fun vs H Q E h => ?_) (fun cdv A outer s H vs Q E hr h => ?_)
  · obtain ⟨d, m, sc, ns, rfl, _⟩ := h
    rfl
  · obtain ⟨d, m, sc, ns, rfl, m1, m4, hD, q⟩ := h
    have hu := hu_of hr
    refine ⟨_, pss_cons (ps_par3 (i := 2) (j := 3) (l := 4) rfl scLTu.nd rfl rfl rfl (by decide) (by decide) (by decide) rfl rfl rfl (pa_cons (pe_call GX hr rfl X.g X.F.kp X.b .nil pass0 (pa_cons (pv 0) (pa_cons pe_int pa_nil)))
        (pa_cons (pe_call GX hr rfl X.g X.F.kp X.b .nil pass0 (pa_cons (pv 0) (pa_cons (pv 1) pa_nil))) (pa_cons (pe_call GX hr rfl X.g X.F.kp X.b .nil pass0 (pa_cons (pv 0) (pa_cons (pv 1) pa_nil))) pa_nil))) (by rfl))
      (pss_cons (ps_set (i := 5) scLTu.nd rfl (Or.inl rfl) (pe_listRg rfl (by rfl) B.list (prg_2 (by rfl) B.range pe_int (pe_op op_add (pv 1) pe_int))))
      (pss_cons (ps_if (pt_cmpR op_eq (pv 2) pe_int (nomark _))
        (pss_one (ps_asg (pe_tup (pa_cons (pe_ix ix_list (pv 5) (pv 4) (fun _ _ => rfl)) (pa_cons (pe_ix ix_list (pv 5) (pv 3) (fun _ _ => rfl)) pa_nil))) (pg_tup rfl (pgs_cons (pg_sub (pv 5) (pv 3) set_list) (pgs_cons (pg_sub (pv 5) (pv 4) set_list) pgs_nil)))))
        (pss_one (ps_if (pt_cmpR op_eq (pv 2) pe_int (nomark _))
          (pss_one (ps_asg (pe_un un_neg (pe_ix ix_list (pv 5) (pv 3) (fun _ _ => rfl))) (pg_sub (pv 5) (pv 3) set_list)))
          (pss_one (ps_if (pt_cmpR op_eq (pv 2) pe_int (nomark _))
            (pss_one (ps_asg (pe_tup (pa_cons (pe_un un_neg (pe_ix ix_list (pv 5) (pv 4) (fun _ _ => rfl))) (pa_cons (pe_un un_neg (pe_ix ix_list (pv 5) (pv 3) (fun _ _ => rfl))) pa_nil))) (pg_tup rfl (pgs_cons (pg_sub (pv 5) (pv 3) set_list) (pgs_cons (pg_sub (pv 5) (pv 4) set_list) pgs_nil)))))
            (pss_one (ps_if (pt_cmpR op_eq (pv 2) pe_int (nomark _))
              (pss_one (ps_set (i := 5) scLTu.nd rfl (Or.inl rfl) (pe_op op_cat (pe_slice sl_list (pv 5) (po_some (pv 3)) po_none) (pe_slice sl_list (pv 5) po_none (po_some (pv 3))))))
              (pss_cons (ps_set (i := 6) scLTu.nd rfl (Or.inr rfl) (pe_callTy (T := "list") call_list_of (by rfl) B.list (by decide +kernel) (pa_cons (pv 5) pa_nil)))
              (pss_cons (ps_setLc (i := 5) (own := [("k", 7)]) (g := gName 7) (tt := tYes) (te := tPopAt K) rfl scLTu.nd rfl rfl (sw_true rfl rfl rfl (by decide +kernel)) (pi_range1 rfl B.range (pa_cons (pv 1) pa_nil))
                (blkOk_by (own := [("k", 7)]) (N := nLTu) (sc := defScope sLTu) (by decide +kernel)) (fun _ _ _ _ _ => pg_name (i := 7) scLTu.nd rfl (Or.inl rfl)) (fun _ _ _ _ _ => pts_nil)
                (fun _ _ _ _ _ => pe_bm PySem.F.plainAttrs_list PySem.F.slot_list_pop PySem.F.type_list_pop mt_popAt (pv 6) (pa_cons (pe_call GX hr rfl X.g X.F.kp X.b .nil pass0 (pa_cons (pv 0) (pa_cons (pe_callB call_len_seq (by rfl) B.len PySem.boot_len (pa_cons (pv 6) pa_nil)) pa_nil))) pa_nil)))
              (pss_one (ps_setLc (i := 5) (own := [("truth", 8)]) (g := gName 8) (tt := tYes) (te := tSign K) rfl scLTu.nd rfl rfl (sw_true rfl rfl rfl (by decide +kernel)) (pi_list (pv 5))
                (blkOk_by (own := [("truth", 8)]) (N := nLTu) (sc := defScope sLTu) (by decide +kernel)) (fun _ _ _ _ _ => pg_name (i := 8) scLTu.nd rfl (Or.inl rfl)) (fun _ _ _ _ _ => pts_nil)
                (fun _ _ _ _ _ => pe_ix ix_list (pe_lst (pa_cons (pv 8) (pa_cons (pe_un un_neg (pv 8)) pa_nil))) (pe_call GX hr rfl X.g X.F.kp X.b .nil pass0 (pa_cons (pv 0) (pa_cons pe_int pa_nil))) (fun _ _ => rfl)))))))))))))
      (pss_one (ps_ret (pe_callTy call_tuple_of (by rfl) B.tuple (by decide +kernel) (pa_cons (pv 5) pa_nil)))))), ?_⟩
    show tSeq _ _ _ [some (.ref d), some (.int m), none, none, none, none, none, none, none] H
    obtain ⟨n, rfl⟩ := Int.eq_ofNat_of_zero_le (by omega : 0 ≤ m)
    rw [Int.toNat_natCast] at q
    refine seq_gen (fun σ' H' => ∃ (r : Int) (i j : Nat), σ' = [some (.ref d), some (.int n), some (.int r), some (.int i), some (.int j), none, none, none, none] ∧ 0 ≤ r ∧ r < 5 ∧ i < n ∧ j < n ∧ Ex d H H' ∧ DrA K sc ns H' d) (fun nx hnx => ?_) ?_
    · unfold tPar3
      walk_at "rd"
      refine ⟨d, 5, sc, ns, rfl, by decide, hD, fun r H1 r0 r5 E1 D1 => ?_⟩
      walk_at "rd"
      refine ⟨d, n, sc, ns, rfl, by omega, D1, fun i H2 i0 i1 E2 D2 => ?_⟩
      walk_at "rd"
      refine ⟨d, n, sc, ns, rfl, by omega, D2, fun j H3 j0 j1 E3 D3 => ?_⟩
      obtain ⟨i, rfl⟩ := Int.eq_ofNat_of_zero_le i0
      obtain ⟨j, rfl⟩ := Int.eq_ofNat_of_zero_le j0
      exact ⟨_, _, _, rfl, hnx _ _ ⟨r, i, j, rfl, r0, r5, by omega, by omega, Ex.trans E1 (Ex.trans E2 E3), D3⟩⟩
    rintro σ H1 ⟨r, i, j, rfl, r0, r5, hi, hj, E1, D1⟩
    refine seq_gen (fun σ' H' => ∃ (fl : Addr), σ' = [some (.ref d), some (.int n), some (.int r), some (.int i), some (.int j), some (.ref fl), none, none, none] ∧ Ex d H H' ∧ DrA K sc ns H' d ∧ H' fl = some (.lst ((up n).map V.int)) ∧ H fl = none) (fun nx hnx => ?_) ?_
    · walk_at "rd"
      refine ⟨_, rfl, (n : Int), 1, rfl, rfl, 1, (n : Int) + 1, rfl, rfl, RgOk.of_le (by decide) (by omega) (by decide) (by omega), fun fl hfl => ?_⟩
      rw [up_rg n (by omega), Int.toNat_natCast]
      exact hnx _ _ ⟨fl, rfl, Ex.trans E1 (Ex.same (Same.new hfl)), DrA.same (Same.new hfl) D1, upd_same, none_back E1 D1 hfl⟩
    rintro σ H2 ⟨fl, rfl, E2, D2, hfl, nfl⟩
    have ul := up_len n
    refine seq_gen (fun σ' H' => ∃ (l6 : Option V) (f2 : Addr) (L : List Int), σ' = [some (.ref d), some (.int n), some (.int r), some (.int i), some (.int j), some (.ref f2), l6, none, none] ∧ Trn n L ∧ Ex d H H' ∧ DrA K sc ns H' d ∧ H' f2 = some (.lst (L.map V.int))) (fun nx hnx => ?_) ?_
    · have one : ∀ (L : List Int) (H' : Hp), Trn n L → Ex d H H' → DrA K sc ns H' d → H' fl = some (.lst (L.map V.int)) → nx [some (.ref d), some (.int n), some (.int r), some (.int i), some (.int j), some (.ref fl), none, none, none] H' := fun L H' t e D h => hnx _ _ ⟨none, fl, L, rfl, t, e, D, h⟩
      obtain ⟨x, hx, ax⟩ := get_int (L := up n) (j := i) (by omega)
      obtain ⟨y, hy, ay⟩ := get_int (L := up n) (j := j) (by omega)
      have put : ∀ (L : List Int) (H' : Hp) (k : Nat) (z : Int), k < n → L.length = n → Ex d H H' → DrA K sc ns H' d → H' fl = some (.lst (L.map V.int)) → ixN (L.map V.int).length (k : Int) = some k ∧ Ex d H (upd H' fl (.lst ((L.set k z).map V.int))) ∧ DrA K sc ns (upd H' fl (.lst ((L.set k z).map V.int))) d ∧ (L.map V.int).set k (V.int z) = (L.set k z).map V.int := fun L H' k z hk hl e D h =>
        ⟨ixN_nat (by rw [List.length_map]; omega), Ex.up e nfl, DrA.up hD D e nfl, by rw [List.map_set]⟩
      have rr : r = 0 ∨ r = 1 ∨ r = 2 ∨ r = 3 ∨ r = 4 := by omega
      rcases rr with rfl | rfl | rfl | rfl | rfl
      · refine if_eq rfl ?_
        refine ⟨_, rfl, _, rfl, p_ix (SqL.of hfl) ay ?_⟩
        refine ⟨_, rfl, _, rfl, p_ix (SqL.of hfl) ax ?_⟩
        refine ⟨by show 2 ≤ sizeLine; decide, fun p hp => ?_⟩
        have sp := Same.new (o := .tup [V.int y, V.int x]) hp
        have hp1 : upd H2 p (.tup [V.int y, V.int x]) p = some (.tup [V.int y, V.int x]) := upd_same
        have E3 := Ex.trans E2 (Ex.same sp)
        have D3 := DrA.same sp D2
        have hf3 := sp _ _ hfl
        generalize upd H2 p (.tup [V.int y, V.int x]) = H3 at *
        obtain ⟨i1, E4, D4, e4⟩ := put (up n) H3 i y hi ul E3 D3 hf3
        have t4 : ((up n).set i y).length = n := by rw [List.length_set, ul]
        obtain ⟨j1, E5, D5, e5⟩ := put _ _ j x hj t4 E4 D4 upd_same
        refine ⟨p, _, rfl, SqT.of hp1, rfl, _, _, rfl, _, rfl, _, rfl, p_set hf3 i1 ?_⟩
        rw [e4]
        refine ⟨_, _, rfl, _, rfl, _, rfl, p_set upd_same j1 ?_⟩
        rw [e5]
        exact ⟨rfl, one _ _ (trn_swap (trn_up n) hx hy rfl rfl) E5 D5 upd_same⟩
      · refine if_ne (r := 1) rfl (by decide) (if_eq rfl ?_)
        obtain ⟨i1, E4, D4, e4⟩ := put (up n) H2 i (-x) hi ul E2 D2 hfl
        refine ⟨_, rfl, _, rfl, p_ix (SqL.of hfl) ax ⟨x, rfl, ?_⟩⟩
        refine ⟨_, rfl, _, rfl, p_set hfl i1 ?_⟩
        rw [e4]
        exact one _ _ (trn_neg (trn_up n) hx (absI_neg x)) E4 D4 upd_same
      · refine if_ne (r := 2) rfl (by decide) (if_ne (r := 2) rfl (by decide) (if_eq rfl ?_))
        refine ⟨_, rfl, _, rfl, p_ix (SqL.of hfl) ay ⟨y, rfl, ?_⟩⟩
        refine ⟨_, rfl, _, rfl, p_ix (SqL.of hfl) ax ⟨x, rfl, ?_⟩⟩
        refine ⟨by show 2 ≤ sizeLine; decide, fun p hp => ?_⟩
        have sp := Same.new (o := .tup [V.int (-y), V.int (-x)]) hp
        have hp1 : upd H2 p (.tup [V.int (-y), V.int (-x)]) p = some (.tup [V.int (-y), V.int (-x)]) := upd_same
        have E3 := Ex.trans E2 (Ex.same sp)
        have D3 := DrA.same sp D2
        have hf3 := sp _ _ hfl
        generalize upd H2 p (.tup [V.int (-y), V.int (-x)]) = H3 at *
        obtain ⟨i1, E4, D4, e4⟩ := put (up n) H3 i (-y) hi ul E3 D3 hf3
        have t4 : ((up n).set i (-y)).length = n := by rw [List.length_set, ul]
        obtain ⟨j1, E5, D5, e5⟩ := put _ _ j (-x) hj t4 E4 D4 upd_same
        refine ⟨p, _, rfl, SqT.of hp1, rfl, _, _, rfl, _, rfl, _, rfl, p_set hf3 i1 ?_⟩
        rw [e4]
        refine ⟨_, _, rfl, _, rfl, _, rfl, p_set upd_same j1 ?_⟩
        rw [e5]
        exact ⟨rfl, one _ _ (trn_swap (trn_up n) hx hy (absI_neg x) (absI_neg y)) E5 D5 upd_same⟩
      · refine if_ne (r := 3) rfl (by decide) (if_ne (r := 3) rfl (by decide) (if_ne (r := 3) rfl (by decide) (if_eq rfl ?_)))
        refine ⟨_, rfl, _, rfl, (i : Int), rfl, fl, _, rfl, SqL.of hfl, fun p1 hp1 => ?_⟩
        rw [cut_from _ i (by omega)]
        have s1 := Same.new (o := .lst (((up n).drop i).map V.int)) hp1
        have h1 : upd H2 p1 (.lst (((up n).drop i).map V.int)) p1 = some (.lst (((up n).drop i).map V.int)) := upd_same
        refine ⟨_, rfl, _, rfl, (i : Int), rfl, fl, _, rfl, SqL.of (s1 _ _ hfl), fun p2 hp2 => ?_⟩
        rw [cut_to _ i (by omega)]
        have s2 := Same.new (o := .lst (((up n).take i).map V.int)) hp2
        refine ⟨p1, p2, _, _, rfl, rfl, s2 _ _ h1, upd_same, ?_, fun p3 hp3 => ?_⟩
        · rw [List.length_map, List.length_map, List.length_drop, List.length_take, ul]
          exact Nat.le_of_lt (small1000 (by omega))
        · rw [← List.map_append]
          have s3 := Same.new (o := .lst (((up n).drop i ++ (up n).take i).map V.int)) hp3
          have s13 := Same.trans s1 (Same.trans s2 s3)
          exact hnx _ _ ⟨none, p3, _, rfl, trn_rot (trn_up n), Ex.trans E2 (Ex.same s13), DrA.same s13 D2, upd_same⟩
      · refine if_ne (r := 4) rfl (by decide) (if_ne (r := 4) rfl (by decide) (if_ne (r := 4) rfl (by decide) (if_ne (r := 4) rfl (by decide) ?_)))
        refine seq_gen (fun σ' H' => ∃ (pl : Addr), σ' = [some (.ref d), some (.int n), some (.int 4), some (.int i), some (.int j), some (.ref fl), some (.ref pl), none, none] ∧ Ex d H H' ∧ DrA K sc ns H' d ∧ H' pl = some (.lst ((up n).map V.int)) ∧ H pl = none) (fun nx2 hnx2 => ?_) ?_
        · exact ⟨_, rfl, fl, _, rfl, .inl (SqL.of hfl), fun pl hpl => hnx2 _ _ ⟨pl, rfl, Ex.trans E2 (Ex.same (Same.new hpl)), DrA.same (Same.new hpl) D2, upd_same, none_back E2 D2 hpl⟩⟩
        rintro σ H3 ⟨pl, rfl, E3, D3, hpl, npl⟩
        refine seq_gen (fun σ' H' => ∃ (f2 : Addr) (L : List Int), σ' = [some (.ref d), some (.int n), some (.int 4), some (.int i), some (.int j), some (.ref f2), some (.ref pl), none, none] ∧ Ex d H H' ∧ DrA K sc ns H' d ∧ H' f2 = some (.lst (L.map V.int)) ∧ L.Perm (up n)) (fun nx2 hnx2 => ?_) ?_
        · refine ⟨_, rfl, (n : Int), rfl, by omega, by omega, fun D hD' => ?_⟩
          have nD := none_back E3 D3 hD'
          have nDd := D3.nd hD'
          have nDp : D ≠ pl := fun e => by rw [e, hpl] at hD'; cases hD'
          refine lc_range (lo := 0) (n := (n : Int).toNat) (fun j Hj => Ex d H Hj ∧ DrA K sc ns Hj d ∧ ∃ fs rest : List Int, Hj D = some (.lst (fs.map V.int)) ∧ Hj pl = some (.lst (rest.map V.int)) ∧ fs.length = j ∧ (fs ++ rest).Perm (up n))
            ⟨Ex.up E3 nD, DrA.up hD D3 E3 nD, [], up n, upd_same, Same.new hD' _ _ hpl, rfl, List.Perm.refl _⟩ ?_ ?_
          · rintro k Hj hk ⟨Ej, Dj, fs, rest, hDj, hpj, lf, pm⟩
            have lr : fs.length + rest.length = n := by
              have := pm.length_eq
              rw [List.length_append, up_len] at this
              exact this
            rw [Int.toNat_natCast] at hk
            have npd : pl ≠ d := hD.nd npl
            refine ⟨rfl, yesT ?_⟩
            show tPopAt K [some (.ref d), some (.int n), some (.int 4), some (.int i), some (.int j), some (.ref fl), some (.ref pl), some (.int (0 + (k : Int))), none] Hj _
            unfold tPopAt
            walk_at "rd"
            refine ⟨.inl ⟨rfl, _, SqL.of hpj⟩, pl, _, rfl, .inl (SqL.of hpj), ?_⟩
            rw [List.length_map]
            refine ⟨d, (rest.length : Int), sc, ns, rfl, by omega, Dj, fun r H' r0' r1' E' D' => ?_⟩
            obtain ⟨z, rfl⟩ := Int.eq_ofNat_of_zero_le r0'
            have zl : z < rest.length := by omega
            have hp' := E' _ _ hpj npd
            have hd' := E' _ _ hDj nDd
            have gz : (rest.map V.int)[z]? = some (V.int rest[z]) := by rw [List.getElem?_map, List.getElem?_eq_getElem zl]; rfl
            refine ⟨pl, _, (z : Int), z, _, rfl, rfl, hp', by omega, by omega, seqIx (by rw [List.length_map]; exact zl), gz, fs.map V.int, ?_, by rw [List.length_map]; exact small1000 (by omega), ?_⟩
            · rw [upd_ne nDp]
              exact hd'
            have Ea := Ex.trans Ej E'
            have Eb := Ex.up (o := .lst ((rest.map V.int).eraseIdx z)) Ea npl
            have Db := DrA.up (o := .lst ((rest.map V.int).eraseIdx z)) hD D' Ea npl
            refine ⟨Ex.up Eb nD, DrA.up hD Db Eb nD, fs ++ [rest[z]], rest.eraseIdx z, by rw [upd_same, List.map_append]; rfl, by rw [upd_ne (Ne.symm nDp), upd_same, map_erase], by rw [List.length_append, lf]; rfl, ?_⟩
            rw [List.append_assoc]
            exact (List.Perm.append_left fs (erase_perm rest z _ (List.getElem?_eq_getElem zl))).trans pm
          · rintro H4 ⟨E4, D4, fs, rest, hD4, _, lf, pm⟩
            rw [Int.toNat_natCast] at lf
            have lr := pm.length_eq
            rw [List.length_append, up_len] at lr
            have r0 : rest = [] := List.eq_nil_of_length_eq_zero (by omega)
            subst r0
            rw [List.append_nil] at pm
            exact hnx2 _ _ ⟨D, fs, rfl, E4, D4, hD4, pm⟩
        rintro σ H4 ⟨f2, L, rfl, E4, D4, hf2, pm⟩
        have Ll : L.length = n := by
          have := pm.length_eq
          rw [up_len] at this
          exact this
        have La : (L.map absI).Perm (up n) := by
          have := pm.map absI
          rw [up_abs] at this
          exact this
        refine ⟨_, rfl, f2, rfl, ⟨_, SqL.of hf2⟩, fun D hD' => ?_⟩
        have nD := none_back E4 D4 hD'
        have nDd := D4.nd hD'
        have nDf : f2 ≠ D := fun e => by rw [← e, hf2] at hD'; cases hD'
        have nfd : f2 ≠ d := by
          obtain ⟨_, D4'⟩ := D4
          intro e
          rw [e, D4'.dr] at hf2
          have e2 := HO.lst.inj (Option.some.inj hf2)
          cases L with
          | nil => cases e2
          | cons z l => cases (List.cons.inj e2).1
        refine lc_list (K := K) (a := f2) (xs := L.map V.int) (fun j Hj => Ex d H4 Hj ∧ Ex d H Hj ∧ DrA K sc ns Hj d ∧ ∃ gs : List Int, Hj D = some (.lst (gs.map V.int)) ∧ gs.length = j ∧ gs.map absI = (L.take j).map absI)
          ⟨Ex.new hD', Ex.up E4 nD, DrA.up hD D4 E4 nD, [], upd_same, rfl, rfl⟩ (fun j Hj _ ⟨e, _⟩ => SqL.of (e _ _ hf2 nfd)) ?_ ?_
        · rintro k x Hj hk ⟨Ek, Ej, Dj, gs, hDj, lg, ag⟩
          rw [List.getElem?_map] at hk
          cases ez : L[k]? with
          | none => rw [ez] at hk; cases hk
          | some v =>
          rw [ez] at hk
          cases hk
          have kl : k < L.length := (List.getElem?_eq_some_iff.mp ez).1
          refine ⟨rfl, yesT ?_⟩
          show tSign K [some (.ref d), some (.int n), some (.int 4), some (.int i), some (.int j), some (.ref f2), some (.ref pl), none, some (.int v)] Hj _
          unfold tSign
          walk_at "rd"
          refine ⟨by show 2 ≤ sizeLine; decide, fun p hp => ?_⟩
          have sp1 : Same Hj (upd Hj p (.lst [V.int v, V.int (-v)])) := Same.new hp
          have hp1 : upd Hj p (.lst [V.int v, V.int (-v)]) p = some (.lst [V.int v, V.int (-v)]) := upd_same
          have npd := Dj.nd hp
          generalize upd Hj p (.lst [V.int v, V.int (-v)]) = Hk at *
          refine ⟨d, 2, sc, ns, rfl, by decide, DrA.same sp1 Dj, fun r Hm r0 r1' Em Dm => ?_⟩
          have pick : ∃ y : Int, atI [V.int v, V.int (-v)] r = some (.int y) ∧ absI y = absI v := by
            rcases at_two (a := V.int v) (b := V.int (-v)) r0 r1' with ⟨_, e⟩ | ⟨_, e⟩
            · exact ⟨_, e, rfl⟩
            · exact ⟨_, e, absI_neg v⟩
          obtain ⟨y, haty, hy⟩ := pick
          refine p_ix (SqL.of (Em _ _ hp1 npd)) haty ?_
          have Ejm : Ex d Hj Hm := Ex.trans (Ex.same sp1) Em
          refine ⟨gs.map V.int, Ejm _ _ hDj nDd, by rw [List.length_map]; exact small1000 (by omega), Ex.up (Ex.trans Ek Ejm) hD', Ex.up (Ex.trans Ej Ejm) nD, DrA.up hD Dm (Ex.trans Ej Ejm) nD, gs ++ [y], by rw [upd_same, List.map_append]; rfl, by rw [List.length_append, lg]; rfl, ?_⟩
          rw [List.map_append, ag, List.take_add_one, ez]
          simp [hy]
        · rintro H5 ⟨_, E5, D5, gs, hD5, lg, ag⟩
          rw [List.length_map, List.take_length] at ag
          exact hnx _ _ ⟨_, D, gs, rfl, by unfold Trn; rw [ag]; exact La, E5, D5, hD5⟩
    rintro σ H3 ⟨l6, f2, L, rfl, tL, E3, D3, hf2⟩
    walk_at "rd"
    exact ⟨f2, _, rfl, .inl ⟨SqL.of hf2, fun a ha => q a L _ tL (Ex.trans E3 (Ex.same (Same.new ha))) (DrA.same (Same.new ha) D3) upd_same (none_back E3 D3 ha)⟩⟩
end
end Toy

-- part: NE1
namespace L2
open PySem PySem.Spec PySem.Calls PyProof.Rows
/-- xs != [], whatever stands in xs -/
def rNeE (K : PySem.W.Frag) : R2 := fun x y H Q => ∃ a b xs, x = .ref a ∧ y = .ref b ∧ SqL K H a xs ∧ SqL K H b [] ∧ Q (.bl (!xs.isEmpty)) H
theorem op_neE {X : Cx} (hu : X.A.units + 64 < cLine) : OpR X (compareOp .NotEq) (rNeE X.K) := by
  intro pins s σ H x y v u Q I rx ry ⟨a, b, xs, ex, ey, ha, hb, q⟩
  subst ex ey
  cases xs with
  | nil => exact op_neD hu pins s σ H _ _ v u Q I rx ry ⟨.list [], .list [], .lst ha .nil, .lst hb .nil, by decide, by decide, q⟩
  | cons z zs =>
    cases rx
    cases ry
    obtain ⟨its, rv, pl, _⟩ := I.list ha
    obtain ⟨its2, rv2, pl2, _⟩ := I.list hb
    have e2 : its2 = [] := by cases rv2; rfl
    subst e2
    have n1 : its.length = zs.length + 1 := by rw [← rv.length]; rfl
    have big : (its.toArray.size != ([] : List Value).toArray.size) = true := by
      rw [List.size_toArray, n1]
      rfl
    exact SeqAt.RcNeAt.lists_lengths pl.isList pl2.isList big (by omega) X.prog X.w X.xe _ ⟨.bl true, H, I, rfl, q⟩
end L2

-- part: D3
namespace Toy
open PySem L2
theorem rise_up : ∀ (S : List Int) (lo : Int), S.Pairwise (· < ·) → (∀ x ∈ S, lo ≤ x ∧ x < lo + S.length) → S = (List.range S.length).map fun (i : Nat) => lo + (i : Int)
  | [], _, _, _ => rfl
  | a :: r, lo, h, b => by
    have h1 := List.pairwise_cons.mp h
    have ba := b a List.mem_cons_self
    have ih := rise_up r (lo + 1) h1.2 fun x hx => by
      have := h1.1 x hx
      have := b x (List.mem_cons_of_mem _ hx)
      rw [List.length_cons] at this
      omega
    have ea : a = lo := by
      cases r with
      | nil =>
        rw [List.length_cons, List.length_nil] at ba
        omega
      | cons c r =>
        have hc := h1.1 c List.mem_cons_self
        have e0 : c = lo + 1 := by
          rw [List.length_cons, List.range_succ_eq_map, List.map_cons] at ih
          have := (List.cons.inj ih).1
          omega
        omega
    rw [List.length_cons, List.range_succ_eq_map, List.map_cons, List.map_map]
    refine List.cons_eq_cons.mpr ⟨by omega, ?_⟩
    refine ih.trans (List.map_congr_left fun i _ => ?_)
    show lo + 1 + (i : Int) = lo + ((i + 1 : Nat) : Int)
    omega
theorem sorted_turn {n : Nat} {A S : List Int} (hl : A.length = n) (pm : S.Perm A) (rise : S.Pairwise (· ≤ ·)) : S = up n ↔ (∀ x ∈ A, 1 ≤ x ∧ x ≤ n) ∧ A.Nodup := by
  constructor
  · intro e
    subst e
    exact ⟨fun x hx => up_mem.mp (pm.mem_iff.mpr hx), (pm.nodup_iff).mp (up_nodup n)⟩
  · rintro ⟨hb, nd⟩
    have ndS : S.Nodup := (pm.nodup_iff).mpr nd
    have lS : S.length = n := pm.length_eq.trans hl
    have st : S.Pairwise (· < ·) := by
      have := List.Pairwise.and rise ndS
      exact this.imp fun {a b} h => by have h1 := h.1; have h2 := h.2; omega
    have := rise_up S 1 st fun x hx => by
      have := hb x (pm.mem_iff.mp hx)
      rw [lS]
      omega
    rw [lS] at this
    exact this
def isI (x : V) : Bool := match x with
  | .int _ => true
  | _ => false
theorem only_ints : ∀ {xs : List V}, (xs.filter fun x => !isI x) = [] → ∃ L : List Int, xs = L.map V.int
  | [], _ => ⟨[], rfl⟩
  | x :: r, h => by
    rw [List.filter_cons] at h
    cases x with
    | int i =>
      have h2 : (r.filter fun x => !isI x) = [] := h
      obtain ⟨L, e⟩ := only_ints h2
      exact ⟨i :: L, by rw [e]; rfl⟩
    | _ => cases h
theorem not_ints {xs : List V} {m : Int} (h : (xs.filter fun x => !isI x) ≠ []) : turnB xs m = false := by
  obtain ⟨y, hy⟩ := List.exists_mem_of_ne_nil _ h
  obtain ⟨hm, hn⟩ := List.mem_filter.mp hy
  have e : (xs.map fun x => letB x m).all id = false := by
    rw [Bool.eq_false_iff]
    intro z
    obtain ⟨L, rfl, _⟩ := all_ints z
    obtain ⟨i, _, rfl⟩ := List.mem_map.mp hm
    cases hn
  unfold turnB
  rw [e]
  simp
theorem due_turn {n : Nat} {L S : List Int} (hl : L.length = n) (pm : S.Perm (L.map absI)) (rise : S.Pairwise (· ≤ ·)) (h1 : 1 ≤ n) (h4 : n ≤ 400) : turnB (L.map V.int) (n : Int) = decide (S = up n) := by
  have e := sorted_turn (n := n) (A := L.map absI) (by rw [List.length_map]; exact hl) pm rise
  unfold turnB manyB
  rw [decide_eq_true (by omega : (1 : Int) ≤ (n : Int)), decide_eq_true (by omega : (n : Int) ≤ 400), List.length_map, decide_eq_true (by omega : (L.length : Int) = (n : Int)), abs_ints, Bool.true_and, Bool.true_and, Bool.true_and]
  rw [Bool.eq_iff_iff, Bool.and_eq_true, decide_eq_true_eq, decide_eq_true_eq, e]
  have ea : ((L.map V.int).map fun x => letB x (n : Int)).all id = true ↔ ∀ x ∈ L.map absI, 1 ≤ x ∧ x ≤ n := by
    rw [List.map_map, List.all_eq_true]
    constructor
    · intro h x hx
      obtain ⟨i, hi, rfl⟩ := List.mem_map.mp hx
      have := h _ (List.mem_map.mpr ⟨i, hi, rfl⟩)
      have h2 : (decide (1 ≤ absI i) && decide (absI i ≤ (n : Int))) = true := this
      rw [Bool.and_eq_true] at h2
      exact ⟨of_decide_eq_true h2.1, of_decide_eq_true h2.2⟩
    · intro h y hy
      obtain ⟨i, hi, rfl⟩ := List.mem_map.mp hy
      have := h _ (List.mem_map.mpr ⟨i, hi, rfl⟩)
      show (decide (1 ≤ absI i) && decide (absI i ≤ (n : Int))) = true
      rw [decide_eq_true this.1, decide_eq_true this.2]
      rfl
  rw [ea]
end Toy

-- part: MT
namespace Toy
open PySem L2
theorem gL_absI (L : List Int) {l : Int} (h1 : 1 ≤ absI l) : absI (gL L l) = absI (L.getD (absI l - 1).toNat 0) := by
  unfold gL
  by_cases p : l > 0
  · have : absI l = l := by unfold absI; rw [if_neg (by omega)]
    rw [if_pos p, this]
  · have : absI l = -l := by
      unfold absI at h1 ⊢
      by_cases z : l < 0
      · rw [if_pos z]
      · rw [if_neg z] at h1
        omega
    rw [if_neg p, absI_neg, this]
/-- the letter of a bit -/
def lOf (W : List Int) (i : Nat) : Int := if W.getD i 0 = 1 then 1 + (i : Int) else -(1 + (i : Int))
theorem lOf_abs (W : List Int) (i : Nat) : absI (lOf W i) = 1 + (i : Int) := by
  unfold lOf
  split
  · unfold absI; rw [if_neg (by omega)]
  · rw [absI_neg]; unfold absI; rw [if_neg (by omega)]
/-- where the letters go that hold -/
def imgs (L W : List Int) : List Int := (List.range W.length).map fun i => gL L (lOf W i)
theorem imgs_abs {L W : List Int} (h : W.length = L.length) : (imgs L W).map absI = L.map absI := by
  unfold imgs
  rw [List.map_map, h]
  refine List.ext_getElem (by simp) fun i h1 h2 => ?_
  rw [List.length_map] at h2
  rw [List.getElem_map, List.getElem_range, List.getElem_map]
  show absI (gL L (lOf W i)) = _
  have ea := lOf_abs W i
  rw [gL_absI L (by rw [ea]; omega), ea, show (1 + (i : Int) - 1).toNat = i by omega, List.getD_eq_getElem?_getD, List.getElem?_eq_getElem h2]
  rfl
theorem trn_imgs {n : Nat} {L W : List Int} (t : Trn n L) (h : W.length = n) : Trn n (imgs L W) := by
  unfold Trn
  rw [imgs_abs (h.trans t.len.symm)]
  exact t
theorem Trn.nd {n : Nat} {L : List Int} (t : Trn n L) : (L.map absI).Nodup := (t.nodup_iff).mpr (up_nodup n)
theorem srt_up {n : Nat} {S I : List Int} (t : Trn n I) (pm : S.Perm I) (rise : S.Pairwise fun a b => absI a ≤ absI b) : S.map absI = up n := by
  refine (sorted_turn (A := I.map absI) (by rw [List.length_map]; exact t.len) (pm.map absI) (List.pairwise_map.mpr rise)).mpr ⟨fun x hx => ?_, t.nd⟩
  obtain ⟨i, hi, rfl⟩ := List.mem_map.mp hx
  exact t.bd hi
theorem same_abs {I : List Int} (nd : (I.map absI).Nodup) {x y : Int} (hx : x ∈ I) (hy : y ∈ I) (e : absI x = absI y) : x = y := by
  induction I with
  | nil => cases hx
  | cons a I ih =>
    have h := List.nodup_cons.mp nd
    rcases List.mem_cons.mp hx with q | q
    · rcases List.mem_cons.mp hy with r | r
      · rw [q, r]
      · exact absurd (List.mem_map.mpr ⟨y, r, by rw [← e, q]⟩) h.1
    · rcases List.mem_cons.mp hy with r | r
      · exact absurd (List.mem_map.mpr ⟨x, q, by rw [e, r]⟩) h.1
      · exact ih h.2 q r
theorem bits_eq {n : Nat} {S I : List Int} (t : Trn n I) (pm : S.Perm I) (rise : S.Pairwise fun a b => absI a ≤ absI b) : S.map (fun l => if 0 < l then (1 : Int) else 0) = (up n).map fun k => if k ∈ I then (1 : Int) else 0 := by
  rw [← srt_up t pm rise, List.map_map]
  refine List.map_congr_left fun l hl => ?_
  have hI := pm.mem_iff.mp hl
  have b := t.bd hI
  show (if 0 < l then (1 : Int) else 0) = if absI l ∈ I then 1 else 0
  by_cases p : 0 < l
  · have : absI l = l := by unfold absI; rw [if_neg (by omega)]
    rw [if_pos p, this, if_pos hI]
  · rw [if_neg p, if_neg]
    intro h
    have h0 : ∀ z : Int, 1 ≤ z → absI z = z := fun z hz => by unfold absI; rw [if_neg (by omega)]
    have a2 := h0 _ b.1
    have := same_abs t.nd h hI a2
    omega
theorem strict_abs {S I : List Int} (pm : S.Perm I) (nd : (I.map absI).Nodup) (rise : S.Pairwise fun a b => absI a ≤ absI b) : S.Pairwise fun a b => a.natAbs < b.natAbs := by
  have n2 : (S.map absI).Nodup := ((pm.map absI).nodup_iff).mpr nd
  have n3 : S.Pairwise fun a b => absI a ≠ absI b := List.pairwise_map.mp n2
  refine (rise.and n3).imp fun {a b} h => ?_
  have h1 := h.1
  have h2 := h.2
  rw [absI_nat, absI_nat] at h1 h2
  omega
theorem ext_abs {S S' I I' : List Int} (p1 : S.Perm I) (p2 : S'.Perm I') (p : I.Perm I') (nd : (I.map absI).Nodup) (r1 : S.Pairwise fun a b => absI a ≤ absI b) (r2 : S'.Pairwise fun a b => absI a ≤ absI b) : S = S' :=
  inc_ext (strict_abs p1 nd r1) (strict_abs p2 (((p.map absI).nodup_iff).mp nd) r2) fun x => (p1.mem_iff.trans p.mem_iff).trans p2.mem_iff.symm
theorem nd_gL {n : Nat} {L C : List Int} (t : Trn n L) (b : ∀ l ∈ C, 1 ≤ absI l ∧ absI l ≤ n) (nd : (C.map absI).Nodup) : ((C.map (gL L)).map absI).Nodup := by
  rw [List.map_map]
  refine List.pairwise_map.mpr ((List.pairwise_map.mp nd).imp_of_mem fun {x y} hx hy h => ?_)
  have bx := b x hx
  have by_ := b y hy
  have ll := t.len
  show absI (gL L x) ≠ absI (gL L y)
  rw [gL_absI L bx.1, gL_absI L by_.1]
  obtain ⟨i, ei⟩ := Int.eq_ofNat_of_zero_le (by omega : 0 ≤ absI x - 1)
  obtain ⟨j, ej⟩ := Int.eq_ofNat_of_zero_le (by omega : 0 ≤ absI y - 1)
  rw [ei, ej, Int.toNat_natCast, Int.toNat_natCast]
  have hi : i < L.length := by omega
  have hj : j < L.length := by omega
  rw [List.getD_eq_getElem?_getD, List.getD_eq_getElem?_getD, List.getElem?_eq_getElem hi, List.getElem?_eq_getElem hj]
  show absI L[i] ≠ absI L[j]
  have pw := List.pairwise_iff_getElem.mp t.nd
  have hi' : i < (L.map absI).length := by rw [List.length_map]; exact hi
  have hj' : j < (L.map absI).length := by rw [List.length_map]; exact hj
  rcases Nat.lt_trichotomy i j with q | q | q
  · have := pw i j hi' hj' q
    rw [List.getElem_map, List.getElem_map] at this
    exact this
  · omega
  · have := pw j i hj' hi' q
    rw [List.getElem_map, List.getElem_map] at this
    exact fun e => this e.symm
theorem mem_fold : ∀ (l ks : List Int) (k : Int), k ∈ l.foldl addU ks ↔ k ∈ ks ∨ k ∈ l := by
  intro l
  induction l with
  | nil => intro ks k; simp
  | cons a l ih =>
    intro ks k
    rw [List.foldl_cons, ih, mem_add, List.mem_cons]
    constructor
    · rintro ((h | h) | h)
      · exact .inl h
      · exact .inr (.inl h)
      · exact .inr (.inr h)
    · rintro (h | h | h)
      · exact .inl (.inl h)
      · exact .inl (.inr h)
      · exact .inr h
theorem nd_fold : ∀ (l ks : List Int), ks.Nodup → (l.foldl addU ks).Nodup
  | [], _, h => h
  | a :: l, ks, h => nd_fold l _ (nd_add h a)
theorem len_fold : ∀ (l ks : List Int), (l.foldl addU ks).length ≤ ks.length + l.length
  | [], _ => Nat.le_refl _
  | a :: l, ks => by
    have h := len_fold l (addU ks a)
    have h2 := len_add (ks := ks) a
    show (l.foldl addU (addU ks a)).length ≤ _
    rw [List.length_cons]
    omega
theorem keys_fold (v : V) : ∀ (l : List Int) (kvs : List (Key × V)) (ks : List Int), kvs.map (·.1) = ks.map Sum.inl → (mergeK kvs (l.map fun i => (Sum.inl i, v))).map (·.1) = (l.foldl addU ks).map Sum.inl
  | [], _, _, h => h
  | a :: l, kvs, ks, h => keys_fold v l (putK kvs (Sum.inl a) v) (addU ks a) (keys_put inl_inj h a v)
end Toy

-- part: EN2
/-! enumerate of a tuple, from a number on -/
namespace EnC
open PySem PyProof.Rows
theorem sub_kw {M : Model} {A : Around} {E : Value → Shared → Prop} {s : Shared} {env : Env} {pos : Pos} {T : String} {e : Expr} {kws : List Keyword} {Q : Value → Shared → Prop}
    (q : wpAny M A (spliced (backTo pos (starEach [e] env))) (fun vs s1 => wpAny M A (evalAll ((backToKw pos (keywordEach kws env)).map (·.2))) (fun ks s2 => wpAny M A (call (.type T) vs (((backToKw pos (keywordEach kws env)).filterMap (·.1)).zip ks)) Q E s2) E s1) E s)
    (one : backTo pos (starEach [e] env) = (false, eval e env) :: backTo pos (starEach [] env)) (noStar : (backTo pos (starEach [e] env)).any (·.1) = false) (named : (backToKw pos (keywordEach kws env)).all (·.1.isSome) = true) (noSplat : (backToKw pos (keywordEach kws env)).any (·.1.isNone) = false) :
    wpAny M A (callWith pos (.type T) [] (backTo pos (starEach [e] env)) (backToKw pos (keywordEach kws env))) Q E s := by
  unfold callWith
  have args : wpAny M A (evalArgs (.type T) true (backTo pos (starEach [e] env)) (backToKw pos (keywordEach kws env))) (fun a s1 => wpAny M A (call (.type T) ([] ++ a.pos) a.kw) Q E s1) E s := by
    rw [one] at q ⊢
    exact evalArgs_kwB named q
  refine wpAny_bind (wpAny_holding (wpAny_mono args (fun a s1 h1 => wpAny_bind (wpAny_standAt ?_)) fun _ _ z => z))
  simp only [noStar, noSplat, Bool.or_false]
  exact wpAny_bind (wpAny_pure (wpAny_bind (wpAny_mono h1 (fun r s2 hr => wpAny_bind (wpAny_holding (wpAny_point (wpAny_pure hr)))) fun _ _ z => z)))
end EnC
namespace L2
open PySem PySem.Spec PyProof.Rows
/-- the tuple at a, each item in a new pair with its number from c on -/
def ItC (K : PySem.W.Frag) (a : Addr) (c : Int) : It :=
  ⟨fun i H => ∃ (xs : List V) (x : V), SqT K H a xs ∧ xs[i]? = some x, fun i H v H' => ∃ T x, v = .ref T ∧ H T = none ∧ H' = upd H T (.tup [.int (c + (i : Nat)), x]) ∧ ∀ xs, SqT K H a xs → xs[i]? = some x, fun i H => ∃ xs : List V, SqT K H a xs ∧ xs.length = i⟩
theorem turn_enumC {P : Program} {w : World} {K : PySem.W.Frag} {elts : List Expr} {kk : Nat} {tpos : Pos} (a e it : Addr) (c : Int) :
    Turn P w K (.Tuple elts kk tpos) (ItC K a c) [e, it] e (fun i h => (∃ old, IsEnum h e it (c + ((i : Nat) : Int)) old) ∧ h.IsTupleIter it a i ∧ e ≠ it) where
  mem := by simp
  obj := fun i h ⟨⟨old, he⟩, ⟨o, ho, hc, hd⟩, _⟩ b hb => by
    rcases (show b = e ∨ b = it by simpa using hb) with rfl | rfl
    · exact ⟨_, he, fun v q => nomatch q⟩
    · exact ⟨o, ho, fun v q => by rw [hd] at q; cases q⟩
  keep := fun i h h' ⟨⟨old, he⟩, hi, hne⟩ k => ⟨⟨old, k e (by simp) _ he⟩, hi.at fun o q => k it (by simp) o q, hne⟩
  item := by
    intro X hP hw hK hc i pins s σ H E I hf st hg
    subst hP hw hK
    obtain ⟨⟨old, he⟩, hit, hne⟩ := st
    obtain ⟨xs, x, hq, hx⟩ := hg
    obtain ⟨its, rv, p, hz⟩ := I.tuple hq
    obtain ⟨u, hu, ru⟩ := rv.get hx
    have le : e < s.heap.objs.size := Heap.lt_size he
    have li : it < s.heap.objs.size := by obtain ⟨_, q, _⟩ := hit; exact Heap.lt_size q
    have ai : a ≠ it := fun z => by
      obtain ⟨o1, h1, c1, _⟩ := hit
      obtain ⟨o2, h2, c2, _⟩ := p
      rw [z, h1] at h2
      cases h2
      rw [c1] at c2
      exact absurd (Value.type.inj c2) (by decide)
    have ae : e ∉ [it, a] := fun z => by
      rcases (show e = it ∨ e = a by simpa using z) with z | z
      · exact hne z
      · obtain ⟨o2, h2, c2, _⟩ := p
        rw [← z, show s.heap.get? e = _ from he] at h2
        cases h2
        exact absurd (Value.type.inj c2) (by decide)
    have D := Draws.tuple (prog := X.prog) (w := X.w) (A := X.A.in1) (I.ok.hd hc) it a ai its.toArray
    refine wpAny_pyNext_enum_itemC D he ⟨hit, p⟩ (by rw [List.size_toArray]; exact (List.getElem?_eq_some_iff.mp hu).1) hne ae fun v h' tk hv ho st' hT _ hk => ?_
    have ev : v = u := by
      have hv : its.toArray[i]? = some v := hv
      rw [show its.toArray[i]? = its[i]? by simp, hu] at hv
      exact (Option.some.inj hv).symm
    subst ev
    refine ⟨_, rfl, wpAny_letOwnedTupleGo_enum (s := { s with heap := h', toks := tk + 1 }) ho fun h2 he2 sb => ?_⟩
    have hT2 : h2.get? s.heap.objs.size = some { cls := .type "tuple", data := .seq #[.int (c + (i : Nat)) tk, v] } := (sb.2 _ (Nat.ne_of_gt le)).trans hT
    have I1 : Inv X pins σ (upd H s.heap.objs.size (.tup [.int (c + (i : Nat)), x])) { s with heap := h2, toks := tk + 1 } :=
      I.turnedNew (ch := [e, it]) (fun b ob hb q => (sb.2 b (fun z => hb (by simp [z]))).trans (hk b ob (fun z => hb (by simp [z])) (fun z => hb (by simp [z])) q)) hf (Nat.le_refl _)
        ⟨by show 2 ≤ sizeLine; decide, [.int (c + (i : Nat)) tk, v], .cons ⟨_, rfl⟩ (.cons ru .nil), ⟨_, hT2, rfl, _, rfl⟩⟩
    refine ⟨.ref s.heap.objs.size, _, I1, rfl, ⟨_, x, rfl, I.hok.fresh (Nat.le_refl _), rfl, fun ys hy => by rw [I.tuple_inj hy hq]; exact hx⟩, ⟨⟨v, ?_⟩, st'.1.at fun o q => (sb.2 it (Ne.symm hne)).trans q, hne⟩, fun b hb => ?_⟩
    · rw [show c + ((i + 1 : Nat) : Int) = c + (i : Int) + 1 by omega]
      exact he2
    · have lb : b < s.heap.objs.size := by
        rcases (show b = e ∨ b = it by simpa using hb) with rfl | rfl
        · exact le
        · exact li
      rw [upd_ne (Nat.ne_of_lt lb)]
      exact (hf b hb).1
  done := by
    intro X hP hw hK hc i pins s σ H E I hf st hg
    subst hP hw hK
    obtain ⟨⟨old, he⟩, hit, hne⟩ := st
    obtain ⟨xs, hq, hx⟩ := hg
    obtain ⟨its, rv, p, hz⟩ := I.tuple hq
    obtain ⟨f0, f1, f2, f3, f4, f5⟩ := hf it (by simp)
    have ai : a ≠ it := fun z => by
      obtain ⟨o1, h1, c1, _⟩ := hit
      obtain ⟨o2, h2, c2, _⟩ := p
      rw [z, h1] at h2
      cases h2
      rw [c1] at c2
      exact absurd (Value.type.inj c2) (by decide)
    have D := Draws.tuple (prog := X.prog) (w := X.w) (A := X.A.in1) (I.ok.hd hc) it a ai its.toArray
    have ei : i = its.toArray.size := by rw [List.size_toArray, ← rv.length]; exact hx.symm
    exact wpAny_pyNext_enum_endD D he ⟨ei ▸ hit, p⟩ fun h' eb => ⟨rfl, I.turned (t' := s.toks) (fun b o hb q => eb b o (by simpa using hb) q) f0 f1 f3 f4 f5⟩
  self := fun A i s Q E st h => let ⟨⟨_, he⟩, _⟩ := st; wpAny_pyIter_enum he h
theorem walk_enumC {K : PySem.W.Frag} {a : Addr} {xs : List V} {c : Int} : Walk (ItC K a c) xs.length (fun H => SqT K H a xs) (fun i H v H' => ∃ T x, v = .ref T ∧ H T = none ∧ H' = upd H T (.tup [.int (c + (i : Nat)), x]) ∧ xs[i]? = some x) :=
  ⟨fun i H hi q => ⟨xs, xs[i], q, by simp [hi]⟩, fun H q => ⟨xs, q, rfl⟩, fun i H v H' hi q ⟨T, x, e1, e2, e3, e4⟩ => ⟨T, x, e1, e2, e3, e4 xs q⟩⟩
theorem enum_start {X : Cx} {elts : List Expr} {kk : Nat} {tpos : Pos} {pins : List (Addr × Obj)} {σ : St} {H : Hp} {s : Shared} {a : Addr} {c : Int} {xs : List V} {R : It → Hp → Prop} {h' : Heap} (I : Inv X pins σ H s) (hq : SqT X.K H a xs)
    (he : IsEnum h' (s.heap.objs.size + 1) s.heap.objs.size c .none) (hi : h'.get? s.heap.objs.size = some { cls := .type "tuple_iterator", data := .fields #[.ref a, .int 0 0] }) (hk : ∀ b o, s.heap.get? b = some o → h'.get? b = some o) (q : R (ItC X.K a c) H) :
    PIE X pins σ (.Tuple elts kk tpos) R (.ref (s.heap.objs.size + 1)) { s with heap := h' } := by
  have up_ : ∀ b, b = s.heap.objs.size + 1 ∨ b = s.heap.objs.size → s.heap.objs.size ≤ b := fun b z => by rcases z with rfl | rfl <;> omega
  refine ⟨s.heap.objs.size + 1, [s.heap.objs.size + 1, s.heap.objs.size], _, _, H, rfl, I.kept (t' := s.toks) hk, turn_enumC a (s.heap.objs.size + 1) s.heap.objs.size c, ⟨⟨.none, ?_⟩, ⟨_, hi, rfl, rfl⟩, Nat.succ_ne_self _⟩, fun b hb => ?_, q⟩
  · rw [show c + ((0 : Nat) : Int) = c by simp]
    exact he
  · have le := up_ b (by simpa using hb)
    exact I.fpOk le (I.hok.fresh le)
/-- for .. in enumerate(t, c), t a tuple -/
def iEnumC (K : PySem.W.Frag) (ta : TA) : TI := fun σ H R => ta σ H fun vs H1 => ∃ a xs c, vs = [.ref a, .int c] ∧ SqT K H1 a xs ∧ -(2 ^ 63) ≤ c ∧ c < 2 ^ 63 ∧ R (ItC K a c) H1
theorem pi_enumC {X : Cx} {e e2 : Expr} {ta : TA} {p pos tpos : Pos} {elts : List Expr} {kk : Nat} (hg : Gl X "enumerate") (hm : X.mg "enumerate" = none) (ha : PA X [e, e2] ta)
    (hs : starEach [e, e2] X.env = (false, eval e X.env) :: starEach [e2] X.env := by rfl) (hpl : (backTo pos (starEach [e2] X.env)).any (·.1) = false := by rfl) :
    PI X (.Tuple elts kk tpos) (.Call (.Name "enumerate" p) [e, e2] [] pos) (iEnumC X.K ta) := by
  refine ⟨fun pins s σ H R I h => Call_ (ld_blt I hg hm boot_enumerate (PyProof.Rows.callWith_type1 (thn (ha.run pos pins s σ H _ I h) fun us s1 ⟨vs, H1, I1, r1, a, xs, c, ex, hq, c0, c1, q⟩ => ?_) hs hpl))⟩
  subst ex
  obtain ⟨u, u2, rfl, ru, ru2⟩ := vals2 r1
  cases ru
  obtain ⟨t, rfl⟩ := ru2
  obtain ⟨its, rv, p', hz⟩ := I1.tuple hq
  exact PySem.enum_begins (PySem.begins_tuple a its.toArray) p' c0 c1 fun h' he hi _ hk => wpAny_pyIter_enum he (enum_start I1 hq he hi hk q)
/-- for .. in enumerate(t, start=c) -/
def iEnumK (K : PySem.W.Frag) (ta : TA) (tc : TE) : TI := fun σ H R => ta σ H fun vs H1 => tc σ H1 fun y H2 => ∃ a xs c, vs = [.ref a] ∧ y = .int c ∧ SqT K H2 a xs ∧ -(2 ^ 63) ≤ c ∧ c < 2 ^ 63 ∧ R (ItC K a c) H2
theorem pi_enumK {X : Cx} {e ke : Expr} {ta : TA} {tc : TE} {p pos kpos tpos : Pos} {elts : List Expr} {kk : Nat} (hg : Gl X "enumerate") (hm : X.mg "enumerate" = none) (ha : PA X [e] ta) (hc : PE X ke tc)
    (h1 : backTo pos (starEach [e] X.env) = (false, eval e X.env) :: backTo pos (starEach [] X.env) := by rfl) (hpl : (backTo pos (starEach [e] X.env)).any (·.1) = false := by rfl)
    (hall : (backToKw pos (keywordEach [⟨some "start", ke, kpos⟩] X.env)).all (·.1.isSome) = true := by rfl) (hnone : (backToKw pos (keywordEach [⟨some "start", ke, kpos⟩] X.env)).any (·.1.isNone) = false := by rfl) :
    PI X (.Tuple elts kk tpos) (.Call (.Name "enumerate" p) [e] [⟨some "start", ke, kpos⟩] pos) (iEnumK X.K ta tc) := by
  refine ⟨fun pins s σ H R I h => ?_⟩
  refine wpAny_Call_Name_kw (ld_blt I hg hm boot_enumerate ?_ (by decide))
  refine EnC.sub_kw (thn (ha.run pos pins s σ H _ I h) fun us s1 ⟨vs, H1, I1, r1, q1⟩ => ?_) h1 hpl hall hnone
  show wpAny _ _ (evalAll ((do let v ← eval ke X.env; standAt pos; pure v) :: [])) _ _ s1
  refine wpAny_evalAll_cons (wpAny_bind (thn (hc.run pins s1 σ H1 _ I1 q1) fun v s2 ⟨y, H2, I2, r2, a, xs, c, ex, ey, hq, c0, c1, q⟩ => wpAny_bind (wpAny_standAt (wpAny_pure ?_))))
  refine wpAny_evalAll_nil ?_
  subst ex ey
  obtain ⟨u, rfl, ru⟩ := vals1 r1
  cases ru
  obtain ⟨t, rfl⟩ := r2
  obtain ⟨its, rv, p', hz⟩ := I2.tuple hq
  exact PySem.enum_begins_start (PySem.begins_tuple a its.toArray) p' c0 c1 fun h' he hi _ hk => wpAny_pyIter_enum he (enum_start I2 hq he hi hk q)
end L2

-- part: W2
namespace Toy
open PySem L2
section
variable {P : Program} {w : World} {K : PySem.W.Frag} {mg : Str → Option Value} {base : Heap}
/-! ### answers -/
abbrev sIsW : Stmt := s_is_worths
abbrev nIsW : List Str := ["thing", "many", "worth"]
theorem scIsW : FnScope nIsW ["thing", "many"] (defScope sIsW) := ⟨rfl, rfl, rfl, by decide +kernel, rfl, by decide +kernel, by decide +kernel⟩
def spIsW (K : PySem.W.Frag) : Sp := fun vs H Q _ => ∃ (b : Addr) (W : List Int), vs = [.ref b, .int (W.length : Int)] ∧ SqT K H b (W.map V.int) ∧ W.length ≤ 1000 ∧ (∀ x ∈ W, x = 0 ∨ x = 1) ∧ ∀ H', Same H H' → Q (.bl true) H'
def tBit (K : PySem.W.Frag) : TE := tAndV (tCall (spIsNum K) [] E0 (tCons (tVar 2) tNil)) (tOp (rIn K false) (tVar 2) (tTup (tCons (tC (V.int 0)) (tCons (tC (V.int 1)) tNil))))
theorem ok_isW {f fN : Addr} {fd fdN : FuncData} (F : Fun K "is_worths" "is_worths" sIsW f fd) (B : Bl mg) (N : Df K mg "is_number" sIsNum ["thing"] fN fdN) : FnOk P w K mg base CX0 2 f fd ["thing", "many"] (spIsW K) := by
  have GN : FnOk P w K mg base CX0 1 fN fdN ["thing"] (spIsNum K) := ok_isNum N.F B
  refine F.ok scIsW (fun vs H Q E h => ?_) (fun cdv A outer s H vs Q E hr h => ?_)
  · obtain ⟨b, W, rfl, _⟩ := h
    rfl
  · obtain ⟨b, W, rfl, hs, lW, hW, q⟩ := h
    refine ⟨_, pss_cons (ps_if (PW.pt (pw_or (pt_cmpR op_neT (pe_callTy call_type1 (by rfl) B.type (by decide +kernel) (pa_cons (pv 0) pa_nil)) (pe_bltn (v := .ty "tuple") (by rfl) B.tuple (by decide +kernel) rfl) (nomark _))
        (pw_or1 (pt_cmpR op_ne (pe_callB call_len_seq (by rfl) B.len PySem.boot_len (pa_cons (pv 0) pa_nil)) (pv 1) (nomark _))))) (pss_one (ps_ret pe_bl)) pss_nil)
      (pss_one (ps_ret (pe_callB (cr_all rfl) (by rfl) B.all (by decide +kernel) (pa_cons (pe_lc (own := [("worth", 2)]) (g := gName 2) (tt := tYes) (te := tBit K) rfl scIsW.nd (pi_tup (pv 0)) (blkOk_by (own := [("worth", 2)]) (N := nIsW) (sc := defScope sIsW) (by decide +kernel))
          (fun _ _ _ _ _ => pg_name (i := 2) scIsW.nd rfl (Or.inl rfl)) (fun _ _ _ _ _ => pts_nil)
          (fun _ _ _ _ _ => pe_and (pe_call GN hr rfl N.g N.F.kp N.b .nil pass0 (pa_cons (pv 2) pa_nil)) (pe_one (pe_cmpR op_in_seq (pv 2) (pe_tup (pa_cons pe_int (pa_cons pe_int pa_nil))) rfl)))) pa_nil)))), ?_⟩
    show tSeq _ _ _ [some (.ref b), some (.int (W.length : Int)), none] H
    refine seq_gen (fun σ' H' => σ' = [some (.ref b), some (.int (W.length : Int)), none] ∧ H' = H) (fun nx hnx => ?_) ?_
    · walk_at "rd"
      refine ⟨.ref b, "tuple", rfl, .tup hs, "tuple", "tuple", rfl, rfl, kn_tup, kn_tup, ?_⟩
      rw [decide_eq_true rfl]
      refine iteF ⟨b, _, rfl, .inr hs, rfl, ?_⟩
      rw [List.length_map, decide_eq_true rfl]
      exact ⟨false, rfl, iteF (hnx _ _ ⟨rfl, rfl⟩)⟩
    rintro σ' H' ⟨rfl, rfl⟩
    walk_at "rd"
    refine ⟨_, rfl, b, rfl, ⟨_, hs⟩, fun D hD => lc_tup (K := K) (a := b) (xs := W.map V.int) (fun j Hj => Same H' Hj ∧ Hj D = some (.lst ((W.take j).map fun _ => V.bl true))) ⟨Same.new hD, upd_same⟩ (fun j Hj _ ⟨e, _⟩ => Same.sqt e hs) ?_ ?_⟩
    · rintro j x Hj hj ⟨ej, hDj⟩
      rw [List.getElem?_map] at hj
      cases ez : W[j]? with
      | none => rw [ez] at hj; cases hj
      | some z =>
      rw [ez] at hj
      cases hj
      have hjl : j < W.length := (List.getElem?_eq_some_iff.mp ez).1
      have bz := hW z (List.mem_of_getElem? ez)
      refine ⟨rfl, yesT ?_⟩
      show tBit K [some (.ref b), some (.int (W.length : Int)), some (.int z)] Hj _
      unfold tBit
      walk_at "rd"
      refine ⟨.int z, "int", rfl, .int z, ?_⟩
      refine ⟨_, rfl, iteT ?_⟩
      refine ⟨by show 2 ≤ sizeLine; decide, fun p hp => ?_⟩
      have sp : Same Hj (upd Hj p (.tup [V.int 0, V.int 1])) := Same.new hp
      have nD : p ≠ D := fun e => by rw [e, hDj] at hp; cases hp
      refine ⟨p, [V.int 0, V.int 1], rfl, .inr (SqT.of upd_same), rfl, rfl, ?_⟩
      have ei : (if false = true then !inV (.int z) [V.int 0, V.int 1] else inV (.int z) [V.int 0, V.int 1]) = true := by
        rcases bz with rfl | rfl <;> rfl
      rw [ei]
      refine ⟨_, (sp _ _ hDj), by rw [List.length_map, List.length_take]; exact small1000 (by omega), fun c o hc => ?_, ?_⟩
      · have hcD : c ≠ D := ne_of_none hc hD
        rw [upd_ne hcD]
        exact sp _ _ (ej c o hc)
      · rw [upd_same, List.take_add_one, ez]
        simp only [Option.toList_some, List.map_append, List.map_cons, List.map_nil]
    rintro H5 ⟨s5, hD5⟩
    rw [List.length_map, List.take_length] at hD5
    refine ⟨D, W.map fun _ => true, rfl, SqL.of (by rw [hD5, List.map_map]; rfl), ?_⟩
    have e : (W.map fun _ => true).all id = true := by
      rw [List.all_eq_true]
      intro y hy
      obtain ⟨_, _, rfl⟩ := List.mem_map.mp hy
      rfl
    rw [e]
    exact q H5 s5
abbrev nOfA : List Str := ["turn", "answer", "holding", "k", "worth", "letter"]
def bitsOf (n : Nat) (I : List Int) : List Int := (up n).map fun k => if k ∈ I then 1 else 0
def spOfA (K : PySem.W.Frag) : Sp := fun vs H Q _ => ∃ (a b : Addr) (n : Nat) (L W : List Int), vs = [.ref a, .ref b] ∧ SqT K H a (L.map V.int) ∧ Trn n L ∧ 1 ≤ n ∧ n ≤ 400 ∧ SqT K H b (W.map V.int) ∧ W.length = n ∧ (∀ x ∈ W, x = 0 ∨ x = 1) ∧
  ∀ (c : Addr) (H' : Hp), Same H H' → H' c = some (.tup ((bitsOf n (imgs L W)).map V.int)) → Q (.ref c) H'
def tImg (K : PySem.W.Frag) : TE := tCall (spGoes K) [] E0 (tCons (tVar 0) (tCons (tIf (tTest (tOp rEq (tVar 4) (tC (V.int 1)))) (tVar 3) (tUn (rU fun i => .int (-i)) (tVar 3))) tNil))
def tPos : TE := tIf (tTest (tOp (rI0 fun i j => .bl (decide (j < i))) (tVar 5) (tC (V.int 0)))) (tC (V.int 1)) (tC (V.int 0))
end
end Toy

-- part: B1
namespace Toy
open PySem L2
theorem gD {L : List Int} {j : Nat} (h : j < L.length) : L.getD j 0 = L[j] := by rw [List.getD_eq_getElem?_getD, List.getElem?_eq_getElem h]; rfl
theorem absI_pos {x : Int} (h : 0 < x) : absI x = x := by unfold absI; rw [if_neg (by omega)]
theorem absI_neg' {x : Int} (h : ¬ 0 < x) (h1 : 1 ≤ absI x) : absI x = -x ∧ x < 0 := by
  unfold absI at h1 ⊢
  by_cases z : x < 0
  · rw [if_pos z]
    exact ⟨rfl, z⟩
  · rw [if_neg z] at h1
    omega
theorem gL_neg (L : List Int) {l : Int} (h : 1 ≤ absI l) : gL L (-l) = -(gL L l) := by
  unfold gL
  by_cases p : 0 < l
  · rw [if_neg (by omega), if_pos p, Int.neg_neg]
  · have := (absI_neg' p h).2
    rw [if_pos (by omega), if_neg p, Int.neg_neg]
theorem gL_nat (L : List Int) (j : Nat) : gL L (1 + (j : Int)) = L.getD j 0 := by
  unfold gL
  rw [if_pos (by omega), show (1 + (j : Int) - 1).toNat = j by omega]
theorem trn_of {n : Nat} {L : List Int} (hl : L.length = n) (hb : ∀ x ∈ L, 1 ≤ absI x ∧ absI x ≤ n) (nd : (L.map absI).Nodup) : Trn n L := by
  let S := (L.map absI).mergeSort fun a b => decide (a ≤ b)
  have pm : S.Perm (L.map absI) := List.mergeSort_perm _ _
  have so : S.Pairwise fun a b => decide (a ≤ b) = true := List.pairwise_mergeSort (le := fun a b : Int => decide (a ≤ b)) (fun a b c h1 h2 => decide_eq_true (Int.le_trans (of_decide_eq_true h1) (of_decide_eq_true h2))) (fun a b => (Int.le_total a b).elim (fun h => by rw [decide_eq_true h]; rfl) (fun h => by rw [decide_eq_true h, Bool.or_true])) _
  have e := (sorted_turn (n := n) (A := L.map absI) (by rw [List.length_map]; exact hl) pm (so.imp fun h => of_decide_eq_true h)).mpr ⟨fun x hx => by
    obtain ⟨i, hi, rfl⟩ := List.mem_map.mp hx
    exact hb i hi, nd⟩
  unfold Trn
  rw [← e]
  exact pm.symm
/-- a letter of one of n truths -/
def Lt (n : Nat) (l : Int) : Prop := 1 ≤ absI l ∧ absI l ≤ n
theorem Lt.nat {n j : Nat} (h : j < n) : Lt n (1 + (j : Int)) := by
  unfold Lt
  rw [absI_pos (by omega)]
  omega
theorem Lt.neg {n : Nat} {l : Int} (h : Lt n l) : Lt n (-l) := by
  unfold Lt at *
  rw [absI_neg]
  exact h
theorem Trn.lt {n : Nat} {L : List Int} (t : Trn n L) {l : Int} (h : Lt n l) : Lt n (gL L l) := gL_abs t h.1 h.2
/-- a letter is a truth's or its negative -/
theorem Lt.two {n : Nat} {l : Int} (h : Lt n l) : ∃ j : Nat, j < n ∧ (l = 1 + (j : Int) ∨ l = -(1 + (j : Int))) := by
  obtain ⟨h1, h2⟩ := h
  by_cases p : 0 < l
  · rw [absI_pos p] at h1 h2
    exact ⟨(l - 1).toNat, by omega, .inl (by omega)⟩
  · obtain ⟨e, z⟩ := absI_neg' p h1
    rw [e] at h1 h2
    exact ⟨(-l - 1).toNat, by omega, .inr (by omega)⟩
def joined (L M : List Int) : List Int := L.map (gL M)
theorem gL_joined {n : Nat} {L M : List Int} (t : Trn n L) {l : Int} (h : Lt n l) : gL (joined L M) l = gL M (gL L l) := by
  have ll := t.len
  obtain ⟨j, hj, e⟩ := h.two
  have hj' : j < L.length := by omega
  have main : gL (joined L M) (1 + (j : Int)) = gL M (gL L (1 + (j : Int))) := by
    rw [gL_nat, gL_nat, gD hj', gD (by unfold joined; rw [List.length_map]; exact hj')]
    unfold joined
    rw [List.getElem_map]
  rcases e with rfl | rfl
  · exact main
  · have a1 : 1 ≤ absI (1 + (j : Int)) := (Lt.nat hj).1
    rw [gL_neg _ a1, gL_neg _ a1, gL_neg _ (t.lt (Lt.nat hj)).1, main]
theorem trn_joined {n : Nat} {L M : List Int} (t : Trn n L) (u : Trn n M) : Trn n (joined L M) := by
  refine trn_of (by unfold joined; rw [List.length_map]; exact t.len) (fun x hx => ?_) (nd_gL u (fun l hl => t.bd hl) t.nd)
  obtain ⟨l, hl, rfl⟩ := List.mem_map.mp hx
  exact u.lt (t.bd hl)
theorem ext_gL {n : Nat} {X Y : List Int} (hx : X.length = n) (hy : Y.length = n) (h : ∀ l, Lt n l → gL X l = gL Y l) : X = Y := by
  refine List.ext_getElem (hx.trans hy.symm) fun j h1 h2 => ?_
  have := h _ (Lt.nat (n := n) (j := j) (by omega))
  rw [gL_nat, gL_nat, gD h1, gD h2] at this
  exact this
theorem onto {n : Nat} {Z : List Int} (t : Trn n Z) {x : Int} (h : Lt n x) : ∃ l, Lt n l ∧ gL Z l = x := by
  have hm : absI x ∈ Z.map absI := t.mem_iff.mpr (up_mem.mpr h)
  obtain ⟨z, hz, e⟩ := List.mem_map.mp hm
  obtain ⟨j, hj, rfl⟩ := List.getElem_of_mem hz
  have ll := t.len
  have lt : Lt n (1 + (j : Int)) := Lt.nat (by omega)
  have ez : Z[j] = x ∨ Z[j] = -x := by
    rw [absI_nat, absI_nat] at e
    omega
  rcases ez with e2 | e2
  · exact ⟨_, lt, by rw [gL_nat, gD hj, e2]⟩
  · exact ⟨_, lt.neg, by rw [gL_neg _ lt.1, gL_nat, gD hj, e2, Int.neg_neg]⟩
theorem inj_gL {n : Nat} {L : List Int} (t : Trn n L) {l m : Int} (hl : Lt n l) (hm : Lt n m) (e : gL L l = gL L m) : l = m := by
  by_cases h : absI l = absI m
  · have : l = m ∨ l = -m := by
      rw [absI_nat, absI_nat] at h
      omega
    rcases this with h2 | h2
    · exact h2
    · rw [h2, gL_neg _ hm.1] at e
      have := (t.lt hm).1
      have z : gL L m = 0 := by omega
      rw [z] at this
      unfold absI at this
      rw [if_neg (by omega)] at this
      omega
  · have nd := nd_gL (C := [l, m]) t (fun x hx => by
      simp only [List.mem_cons, List.not_mem_nil, or_false] at hx
      rcases hx with rfl | rfl
      · exact hl
      · exact hm) (by simpa using h)
    simp only [List.map_cons, List.map_nil, e] at nd
    simp at nd
/-! ### leading back -/
structure Bk (n : Nat) (L B : List Int) : Prop where
  len : B.length = n
  inv : ∀ l, Lt n l → gL B (gL L l) = l
theorem Bk.of {n : Nat} {L B : List Int} (t : Trn n L) (hl : B.length = n) (h : ∀ j : Nat, j < n → gL B (L.getD j 0) = 1 + (j : Int)) : Bk n L B := by
  refine ⟨hl, fun l hl' => ?_⟩
  obtain ⟨j, hj, e⟩ := hl'.two
  have main : gL B (gL L (1 + (j : Int))) = 1 + (j : Int) := by rw [gL_nat, h j hj]
  rcases e with rfl | rfl
  · exact main
  · rw [gL_neg _ (Lt.nat hj).1, gL_neg _ (t.lt (Lt.nat hj)).1, main]
theorem Bk.back {n : Nat} {L B : List Int} (b : Bk n L B) (t : Trn n L) {x : Int} (h : Lt n x) : Lt n (gL B x) ∧ gL L (gL B x) = x := by
  obtain ⟨l, hl, rfl⟩ := onto t h
  rw [b.inv l hl]
  exact ⟨hl, rfl⟩
theorem Bk.trn {n : Nat} {L B : List Int} (b : Bk n L B) (t : Trn n L) : Trn n B := by
  have get : ∀ j (h : j < B.length), gL B (1 + (j : Int)) = B[j] := fun j h => by rw [gL_nat, gD h]
  have lb := b.len
  refine trn_of b.len (fun x hx => ?_) (List.pairwise_iff_getElem.mpr fun i j hi hj hij => ?_)
  · obtain ⟨j, hj, rfl⟩ := List.getElem_of_mem hx
    rw [← get j hj]
    exact (b.back t (Lt.nat (by omega))).1
  · rw [List.length_map] at hi hj
    rw [List.getElem_map, List.getElem_map]
    intro e
    have e1 := (b.back t (Lt.nat (n := n) (j := i) (by omega))).2
    have e2 := (b.back t (Lt.nat (n := n) (j := j) (by omega))).2
    have b1 := (b.back t (Lt.nat (n := n) (j := j) (by omega))).1
    rw [get i hi] at e1
    rw [get j hj] at e2 b1
    have : B[i] = B[j] ∨ B[i] = -B[j] := by
      rw [absI_nat, absI_nat] at e
      omega
    rcases this with h | h
    · rw [h, e2] at e1
      omega
    · rw [h, gL_neg _ b1.1, e2] at e1
      omega
theorem Bk.uniq {n : Nat} {L B B' : List Int} (t : Trn n L) (b : Bk n L B) (b' : Bk n L B') : B = B' := ext_gL b.len b'.len fun x hx => by
  obtain ⟨l, hl, rfl⟩ := onto t hx
  rw [b.inv l hl, b'.inv l hl]
theorem gL_up {n : Nat} {l : Int} (h : Lt n l) : gL (up n) l = l := by
  obtain ⟨j, hj, e⟩ := h.two
  have main : gL (up n) (1 + (j : Int)) = 1 + (j : Int) := by
    rw [gL_nat, gD (by rw [up_len]; exact hj)]
    unfold up
    rw [List.getElem_map, List.getElem_range]
  rcases e with rfl | rfl
  · exact main
  · rw [gL_neg _ (Lt.nat hj).1, main]
theorem join_len {L M : List Int} : (joined L M).length = L.length := by unfold joined; rw [List.length_map]
theorem Bk.r {n : Nat} {L B : List Int} (t : Trn n L) (b : Bk n L B) : joined L B = up n := ext_gL (join_len.trans t.len) (up_len n) fun l hl => by rw [gL_joined t hl, b.inv l hl, gL_up hl]
theorem Bk.l {n : Nat} {L B : List Int} (t : Trn n L) (b : Bk n L B) : joined B L = up n := ext_gL (join_len.trans b.len) (up_len n) fun l hl => by rw [gL_joined (b.trn t) hl, (b.back t hl).2, gL_up hl]
theorem Bk.two {n : Nat} {L M B C : List Int} (t : Trn n L) (u : Trn n M) (b : Bk n L B) (c : Bk n M C) : Bk n (joined L M) (joined C B) := ⟨join_len.trans c.len, fun l hl => by
  rw [gL_joined (c.trn u) (by rw [gL_joined t hl]; exact u.lt (t.lt hl)), gL_joined t hl, c.inv _ (t.lt hl), b.inv l hl]⟩
theorem join_assoc {n : Nat} {L M N : List Int} (t : Trn n L) (u : Trn n M) : joined (joined L M) N = joined L (joined M N) := ext_gL (join_len.trans (join_len.trans t.len)) (join_len.trans t.len) fun l hl => by
  rw [gL_joined (trn_joined t u) hl, gL_joined t hl, gL_joined t hl, gL_joined u (t.lt hl)]
theorem set_same {G : List Int} {x v : Int} (h : Lt G.length x) : gL (G.set (absI x - 1).toNat (if x > 0 then v else -v)) x = v := by
  obtain ⟨h1, h2⟩ := h
  unfold gL
  by_cases p : x > 0
  · rw [if_pos p, if_pos p, absI_pos p, gD (by rw [List.length_set]; rw [absI_pos p] at h1 h2; omega), List.getElem_set_self]
  · obtain ⟨e, z⟩ := absI_neg' p h1
    rw [if_neg p, if_neg p, e, gD (by rw [List.length_set]; rw [e] at h1 h2; omega), List.getElem_set_self, Int.neg_neg]
theorem set_other {G : List Int} {x y z : Int} (hx : 1 ≤ absI x) (hy : 1 ≤ absI y) (n : absI y ≠ absI x) : gL (G.set (absI x - 1).toNat z) y = gL G y := by
  have key : ∀ k : Nat, k ≠ (absI x - 1).toNat → (G.set (absI x - 1).toNat z).getD k 0 = G.getD k 0 := fun k hk => by
    rw [List.getD_eq_getElem?_getD, List.getD_eq_getElem?_getD, List.getElem?_set_ne (Ne.symm hk)]
  unfold gL
  by_cases p : y > 0
  · rw [if_pos p, if_pos p, key]
    rw [absI_pos p] at hy n
    omega
  · have e := (absI_neg' p hy).1
    rw [if_neg p, if_neg p, key]
    rw [e] at hy n
    omega
/-! ### what holds -/
def hd (W : List Int) (l : Int) : Bool := decide (W.getD (absI l - 1).toNat 0 = if 0 < l then 1 else 0)
theorem bit_of {W : List Int} (hW : ∀ x ∈ W, x = 0 ∨ x = 1) {j : Nat} (h : j < W.length) : W.getD j 0 = 0 ∨ W.getD j 0 = 1 := by
  rw [gD h]
  exact hW _ (List.getElem_mem h)
theorem mem_imgs {n : Nat} {L W : List Int} (lW : W.length = n) (hW : ∀ x ∈ W, x = 0 ∨ x = 1) {x : Int} : x ∈ imgs L W ↔ ∃ l, Lt n l ∧ hd W l = true ∧ gL L l = x := by
  unfold imgs
  rw [List.mem_map]
  constructor
  · rintro ⟨i, hi, rfl⟩
    have hi := List.mem_range.mp hi
    have ea := lOf_abs W i
    refine ⟨_, ⟨by rw [ea]; omega, by rw [ea]; omega⟩, ?_, rfl⟩
    unfold hd
    rw [ea, show (1 + (i : Int) - 1).toNat = i by omega]
    rcases bit_of hW hi with e | e
    · have el : lOf W i = -(1 + (i : Int)) := by unfold lOf; rw [e, if_neg (by decide)]
      have p : ¬ (0 : Int) < -(1 + (i : Int)) := by omega
      rw [el, e, if_neg p]
      rfl
    · have el : lOf W i = 1 + (i : Int) := by unfold lOf; rw [e, if_pos rfl]
      have p : (0 : Int) < 1 + (i : Int) := by omega
      rw [el, e, if_pos p]
      rfl
  · rintro ⟨l, hl, h, rfl⟩
    obtain ⟨j, hj, e⟩ := hl.two
    refine ⟨j, List.mem_range.mpr (by omega), ?_⟩
    unfold hd at h
    have h := of_decide_eq_true h
    have el : lOf W j = l := by
      unfold lOf
      rcases e with rfl | rfl
      · rw [absI_pos (by omega), show (1 + (j : Int) - 1).toNat = j by omega, if_pos (by omega)] at h
        rw [if_pos h]
      · rw [absI_neg, absI_pos (by omega), show (1 + (j : Int) - 1).toNat = j by omega, if_neg (by omega)] at h
        rw [if_neg (by omega)]
    rw [el]
theorem bits_len (n : Nat) (I : List Int) : (bitsOf n I).length = n := by unfold bitsOf; rw [List.length_map, up_len]
theorem bits_01 (n : Nat) (I : List Int) : ∀ x ∈ bitsOf n I, x = 0 ∨ x = 1 := by
  unfold bitsOf
  intro x hx
  obtain ⟨k, _, rfl⟩ := List.mem_map.mp hx
  split
  · exact .inr rfl
  · exact .inl rfl
theorem bits_get {n : Nat} {I : List Int} {j : Nat} (h : j < n) : (bitsOf n I).getD j 0 = if (1 + (j : Int)) ∈ I then 1 else 0 := by
  rw [gD (by rw [bits_len]; exact h)]
  unfold bitsOf up
  rw [List.getElem_map, List.getElem_map, List.getElem_range]
theorem hd_bits {n : Nat} {I : List Int} (t : Trn n I) {x : Int} (h : Lt n x) : hd (bitsOf n I) x = decide (x ∈ I) := by
  obtain ⟨j, hj, e⟩ := h.two
  unfold hd
  rcases e with rfl | rfl
  · have p : (0 : Int) < 1 + (j : Int) := by omega
    rw [absI_pos (by omega), show (1 + (j : Int) - 1).toNat = j by omega, bits_get hj, if_pos p]
    by_cases m : (1 + (j : Int)) ∈ I
    · rw [if_pos m, decide_eq_true m]; rfl
    · rw [if_neg m, decide_eq_false m]; rfl
  · have p : ¬ (0 : Int) < -(1 + (j : Int)) := by omega
    rw [absI_neg, absI_pos (by omega), show (1 + (j : Int) - 1).toNat = j by omega, bits_get hj, if_neg p]
    by_cases m : (1 + (j : Int)) ∈ I
    · have nz : ¬ (-(1 + (j : Int)) ∈ I) := fun z => by
        have := same_abs t.nd m z (by rw [absI_neg])
        omega
      rw [if_pos m, decide_eq_false nz]
      rfl
    · have hm : (1 + (j : Int)) ∈ I.map absI := t.mem_iff.mpr (up_mem.mpr ⟨by omega, by omega⟩)
      obtain ⟨z, hz, ez⟩ := List.mem_map.mp hm
      have e2 : z = 1 + (j : Int) ∨ z = -(1 + (j : Int)) := by
        rw [absI_nat] at ez
        omega
      rcases e2 with rfl | rfl
      · exact absurd hz m
      · rw [if_neg m, decide_eq_true hz]; rfl
theorem bits_ext {n : Nat} {I J : List Int} (h : ∀ x, x ∈ I ↔ x ∈ J) : bitsOf n I = bitsOf n J := by
  unfold bitsOf
  refine List.map_congr_left fun k _ => ?_
  by_cases m : k ∈ I
  · rw [if_pos m, if_pos ((h k).mp m)]
  · rw [if_neg m, if_neg fun z => m ((h k).mpr z)]
theorem mem_twice {n : Nat} {L M W : List Int} (t : Trn n L) (lW : W.length = n) (hW : ∀ x ∈ W, x = 0 ∨ x = 1) {x : Int} : x ∈ imgs M (bitsOf n (imgs L W)) ↔ ∃ l, Lt n l ∧ hd W l = true ∧ gL M (gL L l) = x := by
  rw [mem_imgs (bits_len n _) (bits_01 n _)]
  constructor
  · rintro ⟨y, hy, h, rfl⟩
    rw [hd_bits (trn_imgs t lW) hy] at h
    obtain ⟨l, hl, h2, rfl⟩ := (mem_imgs lW hW).mp (of_decide_eq_true h)
    exact ⟨l, hl, h2, rfl⟩
  · rintro ⟨l, hl, h, rfl⟩
    exact ⟨_, t.lt hl, by rw [hd_bits (trn_imgs t lW) (t.lt hl)]; exact decide_eq_true ((mem_imgs lW hW).mpr ⟨l, hl, h, rfl⟩), rfl⟩
theorem bits_join {n : Nat} {L M W : List Int} (t : Trn n L) (lW : W.length = n) (hW : ∀ x ∈ W, x = 0 ∨ x = 1) : bitsOf n (imgs (joined L M) W) = bitsOf n (imgs M (bitsOf n (imgs L W))) := bits_ext fun x => by
  rw [mem_twice t lW hW, mem_imgs lW hW]
  constructor
  · rintro ⟨l, hl, h, rfl⟩
    exact ⟨l, hl, h, (gL_joined t hl).symm⟩
  · rintro ⟨l, hl, h, rfl⟩
    exact ⟨l, hl, h, gL_joined t hl⟩
theorem bits_back {n : Nat} {L B W : List Int} (t : Trn n L) (b : Bk n L B) (lW : W.length = n) (hW : ∀ x ∈ W, x = 0 ∨ x = 1) : bitsOf n (imgs B (bitsOf n (imgs L W))) = W := by
  refine List.ext_getElem ((bits_len n _).trans lW.symm) fun j h1 h2 => ?_
  have hj : j < n := by omega
  rw [← gD h1, ← gD h2, bits_get hj]
  have e : (1 + (j : Int)) ∈ imgs B (bitsOf n (imgs L W)) ↔ hd W (1 + (j : Int)) = true := by
    rw [mem_twice t lW hW]
    constructor
    · rintro ⟨l, hl, h, e⟩
      rw [b.inv l hl] at e
      rw [← e]
      exact h
    · intro h
      exact ⟨_, Lt.nat hj, h, b.inv _ (Lt.nat hj)⟩
  have hh : hd W (1 + (j : Int)) = decide (W.getD j 0 = 1) := by
    unfold hd
    rw [absI_pos (by omega), show (1 + (j : Int) - 1).toNat = j by omega, if_pos (by omega)]
  rw [hh, decide_eq_true_eq] at e
  rcases bit_of hW h2 with q | q
  · rw [if_neg (fun z => by have := e.mp z; omega), q]
  · rw [if_pos (e.mpr q), q]
theorem hd_led {n : Nat} {L W : List Int} (t : Trn n L) (lW : W.length = n) (hW : ∀ x ∈ W, x = 0 ∨ x = 1) {l : Int} (hl : Lt n l) : hd (bitsOf n (imgs L W)) (gL L l) = hd W l := by
  rw [hd_bits (trn_imgs t lW) (t.lt hl), Bool.eq_iff_iff, decide_eq_true_eq, mem_imgs lW hW]
  constructor
  · rintro ⟨m, hm, h, e⟩
    rw [← inj_gL t hm hl e]
    exact h
  · intro h
    exact ⟨l, hl, h, rfl⟩
theorem any_led {n : Nat} {L W C S : List Int} (t : Trn n L) (lW : W.length = n) (hW : ∀ x ∈ W, x = 0 ∨ x = 1) (hC : ∀ l ∈ C, Lt n l) (pm : S.Perm (C.map (gL L))) : S.any (hd (bitsOf n (imgs L W))) = C.any (hd W) := by
  rw [Bool.eq_iff_iff, List.any_eq_true, List.any_eq_true]
  constructor
  · rintro ⟨y, hy, h⟩
    obtain ⟨l, hl, rfl⟩ := List.mem_map.mp (pm.mem_iff.mp hy)
    exact ⟨l, hl, by rw [← hd_led t lW hW (hC l hl)]; exact h⟩
  · rintro ⟨l, hl, h⟩
    exact ⟨_, pm.mem_iff.mpr (List.mem_map.mpr ⟨l, hl, rfl⟩), by rw [hd_led t lW hW (hC l hl)]; exact h⟩
end Toy

-- part: B2
namespace Toy
open PySem L2
section
variable {P : Program} {w : World} {K : PySem.W.Frag} {mg : Str → Option Value} {base : Heap}
/-! ### still -/
abbrev sStill : Stmt := s_still
theorem scStill : FnScope ["many"] ["many"] (defScope sStill) := ⟨rfl, rfl, rfl, by decide +kernel, rfl, by decide +kernel, by decide +kernel⟩
def spStill : Sp := fun vs H Q _ => ∃ m, vs = [.int m] ∧ 1 ≤ m ∧ m ≤ 400 ∧ ∀ (a : Addr) (H' : Hp), Same H H' → H' a = some (.tup ((up m.toNat).map V.int)) → Q (.ref a) H'
theorem ok_still {f : Addr} {fd : FuncData} (F : Fun K "still" "still" sStill f fd) (B : Bl mg) : FnOk P w K mg base CX0 1 f fd ["many"] spStill := by
  refine F.ok scStill (fun vs H Q E h => ?_) (fun cdv A outer s H vs Q E hr h => ?_)
  · obtain ⟨m, rfl, _⟩ := h
    rfl
  · obtain ⟨m, rfl, m1, m4, q⟩ := h
    refine ⟨_, pss_one (ps_ret (pe_tupRg rfl (by rfl) B.tuple (prg_2 (by rfl) B.range pe_int (pe_op op_add (pv 0) pe_int)))), ?_⟩
    show tRet _ _ [some (.int m)] H
    refine ⟨_, rfl, m, 1, rfl, rfl, 1, m + 1, rfl, rfl, RgOk.of_le (by decide) (by omega) (by decide) (by omega), fun a ha => ?_⟩
    rw [up_rg m (by omega)]
    exact q a _ (Same.new ha) upd_same
/-! ### the table -/
def tabL (L : List Int) : List Int := (0 :: L) ++ L.reverse.map fun l => -l
theorem tab_at {n : Nat} {L : List Int} (ln : L.length = n) {l : Int} (h : Lt n l) : atI ((tabL L).map V.int) l = some (V.int (gL L l)) := by
  have lt : (tabL L).length = 2 * n + 1 := by
    unfold tabL
    rw [List.length_append, List.length_cons, List.length_map, List.length_reverse, ln]
    omega
  obtain ⟨j, hj, e⟩ := h.two
  have hj' : j < L.length := by omega
  unfold atI
  rw [List.length_map, lt]
  rcases e with rfl | rfl
  · have ei : ixN (2 * n + 1) (1 + (j : Int)) = some (1 + j) := by
      unfold ixN
      rw [if_pos (by omega), if_pos (by omega)]
      exact congrArg some (by omega)
    rw [ei]
    show ((tabL L).map V.int)[1 + j]? = _
    rw [List.getElem?_map, gL_nat, gD hj']
    unfold tabL
    rw [List.getElem?_append_left (by rw [List.length_cons]; omega), Nat.add_comm 1 j, List.getElem?_cons_succ, List.getElem?_eq_getElem hj']
    rfl
  · have ei : ixN (2 * n + 1) (-(1 + (j : Int))) = some (2 * n - j) := by
      unfold ixN
      rw [if_neg (by omega), if_pos (by omega)]
      exact congrArg some (by omega)
    rw [ei]
    show ((tabL L).map V.int)[2 * n - j]? = _
    rw [List.getElem?_map, gL_neg _ (Lt.nat hj).1, gL_nat, gD hj']
    unfold tabL
    have e2 : 2 * n - j - (0 :: L).length = n - 1 - j := by
      rw [List.length_cons, ln]
      omega
    rw [List.getElem?_append_right (by rw [List.length_cons]; omega), e2, List.getElem?_map, List.getElem?_reverse (by omega)]
    have e3 : L.length - 1 - (n - 1 - j) = j := by omega
    rw [e3, List.getElem?_eq_getElem hj']
    rfl
abbrev sTab : Stmt := s_table_of
abbrev nTab : List Str := ["turn", "letter"]
theorem scTab : FnScope nTab ["turn"] (defScope sTab) := ⟨rfl, rfl, rfl, by decide +kernel, rfl, by decide +kernel, by decide +kernel⟩
def spTab (K : PySem.W.Frag) : Sp := fun vs H Q _ => ∃ (a : Addr) (L : List Int), vs = [.ref a] ∧ SqT K H a (L.map V.int) ∧ L ≠ [] ∧ L.length ≤ 400 ∧ ∀ (b : Addr) (H' : Hp), Same H H' → H' b = some (.tup ((tabL L).map V.int)) → Q (.ref b) H'
def tNeg1 : TE := tUn (rU fun i => .int (-i)) (tVar 1)
theorem ok_tab {f : Addr} {fd : FuncData} (F : Fun K "table_of" "table_of" sTab f fd) (B : Bl mg) : FnOk P w K mg base CX0 1 f fd ["turn"] (spTab K) := by
  refine F.ok scTab (fun vs H Q E h => ?_) (fun cdv A outer s H vs Q E hr h => ?_)
  · obtain ⟨a, L, rfl, _⟩ := h
    rfl
  · obtain ⟨a, L, rfl, hs, ne, l4, q⟩ := h
    refine ⟨_, pss_one (ps_ret (pe_op op_catT (pe_op op_catT (pe_tup (pa_cons pe_int pa_nil)) (pv 0)) (pe_callTy call_tuple_of (by rfl) B.tuple (by decide +kernel) (pa_cons
        (pe_lc (own := [("letter", 1)]) (g := gName 1) (tt := tYes) (te := tNeg1) rfl scTab.nd (pi_tup (pe_revT (pv 0))) (blkOk_by (own := [("letter", 1)]) (N := nTab) (sc := defScope sTab) (by decide +kernel))
          (fun _ _ _ _ _ => pg_name (i := 1) scTab.nd rfl (Or.inl rfl)) (fun _ _ _ _ _ => pts_nil) (fun _ _ _ _ _ => pe_un un_neg (pv 1))) pa_nil)))), ?_⟩
    show tRet _ _ [some (.ref a), none] H
    walk_at "rd"
    refine ⟨by show 1 ≤ sizeLine; decide, fun p hp => ?_⟩
    have s1 : Same H (upd H p (.tup [V.int 0])) := Same.new hp
    have hp' : upd H p (.tup [V.int 0]) p = some (.tup [V.int 0]) := upd_same
    generalize upd H p (.tup [V.int 0]) = H1 at *
    have eZ : sizeLine = 16777216 := rfl
    have lne : L.map V.int ≠ [] := fun e => ne (List.map_eq_nil_iff.mp e)
    refine ⟨p, a, _, _, rfl, rfl, SqT.of hp', Same.sqt s1 hs, by decide, by rw [List.length_map, List.length_singleton]; omega, fun e => absurd e lne, fun _ p2 hp2 => ?_⟩
    have s2 : Same H1 (upd H1 p2 (.tup ([V.int 0] ++ L.map V.int))) := Same.new hp2
    have hp2' : upd H1 p2 (.tup ([V.int 0] ++ L.map V.int)) p2 = some (.tup ([V.int 0] ++ L.map V.int)) := upd_same
    generalize upd H1 p2 (.tup ([V.int 0] ++ L.map V.int)) = H2 at *
    have s12 := Same.trans s1 s2
    refine ⟨_, rfl, a, _, rfl, Same.sqt s12 hs, fun p3 hp3 => ?_⟩
    rw [← List.map_reverse]
    have s3 : Same H2 (upd H2 p3 (.tup (L.reverse.map V.int))) := Same.new hp3
    have hp3' : upd H2 p3 (.tup (L.reverse.map V.int)) p3 = some (.tup (L.reverse.map V.int)) := upd_same
    generalize upd H2 p3 (.tup (L.reverse.map V.int)) = H3 at *
    refine ⟨p3, rfl, ⟨_, SqT.of hp3'⟩, fun D hD => lc_tup (K := K) (a := p3) (xs := L.reverse.map V.int) (fun j Hj => Same H3 Hj ∧ Hj D = some (.lst (((L.reverse.take j).map fun l => -l).map V.int))) ⟨Same.new hD, upd_same⟩ (fun j Hj _ ⟨e, _⟩ => SqT.of (e _ _ hp3')) ?_ ?_⟩
    · rintro j x Hj hj ⟨ej, hDj⟩
      rw [List.getElem?_map] at hj
      cases ez : L.reverse[j]? with
      | none => rw [ez] at hj; cases hj
      | some z =>
      rw [ez] at hj
      cases hj
      have hjl : j < L.reverse.length := (List.getElem?_eq_some_iff.mp ez).1
      rw [List.length_reverse] at hjl
      refine ⟨rfl, yesT ?_⟩
      show tNeg1 [some (.ref a), some (.int z)] Hj _
      unfold tNeg1
      walk_at "rd"
      refine ⟨_, hDj, by rw [List.length_map, List.length_map, List.length_take]; exact small1000 (by omega), fun c o hc => ?_, ?_⟩
      · rw [upd_ne (ne_of_none hc hD)]
        exact ej c o hc
      · rw [upd_same, List.take_add_one, ez]
        simp only [Option.toList_some, List.map_append, List.map_cons, List.map_nil]
    rintro H5 ⟨s5, hD5⟩
    rw [List.length_map, List.take_length] at hD5
    walk_at "rd"
    refine ⟨D, _, rfl, .inl ⟨SqL.of hD5, fun p4 hp4 => ?_⟩⟩
    have s6 : Same H5 (upd H5 p4 (.tup ((L.reverse.map fun l => -l).map V.int))) := Same.new hp4
    have hp4' : upd H5 p4 (.tup ((L.reverse.map fun l => -l).map V.int)) p4 = some (.tup ((L.reverse.map fun l => -l).map V.int)) := upd_same
    generalize upd H5 p4 (.tup ((L.reverse.map fun l => -l).map V.int)) = H6 at *
    have s26 := Same.trans s3 (Same.trans s5 s6)
    have rne : (L.reverse.map fun l => -l).map V.int ≠ [] := fun e => ne (by simpa using e)
    refine ⟨p2, p4, _, _, rfl, rfl, SqT.of (s26 _ _ hp2'), SqT.of hp4', by simp, by simp only [List.length_append, List.length_map, List.length_reverse, List.length_singleton]; omega, fun e => absurd e rne, fun _ p5 hp5 => ?_⟩
    have e : [V.int 0] ++ L.map V.int ++ (L.reverse.map fun l => -l).map V.int = (tabL L).map V.int := by
      unfold tabL
      rw [List.map_append, List.map_cons]
      rfl
    rw [e]
    exact q p5 _ (Same.trans s12 (Same.trans s26 (Same.new hp5))) upd_same
abbrev sOn : Stmt := s_led_on
abbrev nOn : List Str := ["turn", "table", "letter"]
theorem scOn : FnScope nOn ["turn", "table"] (defScope sOn) := ⟨rfl, rfl, rfl, by decide +kernel, rfl, by decide +kernel, by decide +kernel⟩
def spOn (K : PySem.W.Frag) : Sp := fun vs H Q _ => ∃ (a b : Addr) (n : Nat) (L M : List Int), vs = [.ref a, .ref b] ∧ SqT K H a (L.map V.int) ∧ Trn n L ∧ n ≤ 400 ∧ SqT K H b ((tabL M).map V.int) ∧ M.length = n ∧ ∀ (c : Addr) (H' : Hp), Same H H' → H' c = some (.tup ((joined L M).map V.int)) → Q (.ref c) H'
def tTab (K : PySem.W.Frag) : TE := tOp (rIxT K) (tVar 1) (tVar 2)
theorem ok_on {f : Addr} {fd : FuncData} (F : Fun K "led_on" "led_on" sOn f fd) (B : Bl mg) : FnOk P w K mg base CX0 1 f fd ["turn", "table"] (spOn K) := by
  refine F.ok scOn (fun vs H Q E h => ?_) (fun cdv A outer s H vs Q E hr h => ?_)
  · obtain ⟨a, b, n, L, M, rfl, _⟩ := h
    rfl
  · obtain ⟨a, b, n, L, M, rfl, hs, t, n4, hb, lM, q⟩ := h
    refine ⟨_, pss_one (ps_ret (pe_callTy call_tuple_of (by rfl) B.tuple (by decide +kernel) (pa_cons
        (pe_lc (own := [("letter", 2)]) (g := gName 2) (tt := tYes) (te := tTab K) rfl scOn.nd (pi_tup (pv 0)) (blkOk_by (own := [("letter", 2)]) (N := nOn) (sc := defScope sOn) (by decide +kernel))
          (fun _ _ _ _ _ => pg_name (i := 2) scOn.nd rfl (Or.inl rfl)) (fun _ _ _ _ _ => pts_nil) (fun _ _ _ _ _ => pe_ix ix_tup (pv 1) (pv 2) (fun _ _ => rfl))) pa_nil))), ?_⟩
    show tRet _ _ [some (.ref a), some (.ref b), none] H
    walk_at "rd"
    have ll := t.len
    refine ⟨_, rfl, a, rfl, ⟨_, hs⟩, fun D hD => lc_tup (K := K) (a := a) (xs := L.map V.int) (fun j Hj => Same H Hj ∧ Hj D = some (.lst (((L.take j).map (gL M)).map V.int))) ⟨Same.new hD, upd_same⟩ (fun j Hj _ ⟨e, _⟩ => Same.sqt e hs) ?_ ?_⟩
    · rintro j x Hj hj ⟨ej, hDj⟩
      rw [List.getElem?_map] at hj
      cases ez : L[j]? with
      | none => rw [ez] at hj; cases hj
      | some z =>
      rw [ez] at hj
      cases hj
      have hjl : j < L.length := (List.getElem?_eq_some_iff.mp ez).1
      refine ⟨rfl, yesT ?_⟩
      show tTab K [some (.ref a), some (.ref b), some (.int z)] Hj _
      unfold tTab
      walk_at "rd"
      refine p_ixT (Same.sqt ej hb) (tab_at lM (t.bd (List.mem_of_getElem? ez))) ?_
      refine ⟨_, hDj, by rw [List.length_map, List.length_map, List.length_take]; exact small1000 (by omega), fun c o hc => ?_, ?_⟩
      · rw [upd_ne (ne_of_none hc hD)]
        exact ej c o hc
      · rw [upd_same, List.take_add_one, ez]
        simp only [Option.toList_some, List.map_append, List.map_cons, List.map_nil]
    rintro H5 ⟨s5, hD5⟩
    rw [List.length_map, List.take_length] at hD5
    walk_at "rd"
    refine ⟨D, _, rfl, .inl ⟨SqL.of hD5, fun c hc => ?_⟩⟩
    exact q c _ (Same.trans s5 (Same.new hc)) upd_same
/-! ### back -/
abbrev sLb : Stmt := s_led_back
abbrev nLb : List Str := ["turn", "goals", "truth", "letter"]
theorem scLb : FnScope nLb ["turn"] (defScope sLb) := ⟨rfl, rfl, rfl, by decide +kernel, rfl, by decide +kernel, by decide +kernel⟩
def spLb (K : PySem.W.Frag) : Sp := fun vs H Q _ => ∃ (a : Addr) (n : Nat) (L : List Int), vs = [.ref a] ∧ SqT K H a (L.map V.int) ∧ Trn n L ∧ n ≤ 400 ∧ ∀ (b : Addr) (B : List Int) (H' : Hp), Bk n L B → Same H H' → H' b = some (.tup (B.map V.int)) → Q (.ref b) H'
theorem ok_lb {f : Addr} {fd : FuncData} (F : Fun K "led_back" "led_back" sLb f fd) (B : Bl mg) : FnOk P w K mg base CX0 1 f fd ["turn"] (spLb K) := by
  refine F.ok scLb (fun vs H Q E h => ?_) (fun cdv A outer s H vs Q E hr h => ?_)
  · obtain ⟨a, n, L, rfl, _⟩ := h
    rfl
  · obtain ⟨a, n, L, rfl, hs, t, n4, q⟩ := h
    refine ⟨_, pss_cons (ps_set (i := 1) scLb.nd rfl (Or.inl rfl) (pe_callTy (T := "list") call_list_of (by rfl) B.list (by decide +kernel) (pa_cons (pv 0) pa_nil)))
      (pss_cons (ps_for PassesOwn.never rfl (pi_enumK (by rfl) B.enumerate (pa_cons (pv 0) pa_nil) pe_int) (pg_tup rfl (pgs_cons (pg_name (i := 2) scLb.nd rfl (Or.inl rfl)) (pgs_cons (pg_name (i := 3) scLb.nd rfl (Or.inl rfl)) pgs_nil)))
        (pss_one (ps_asg (pe_ifExp (pt_cmpR op_gt (pv 3) pe_int (nomark _)) (pv 2) (pe_un un_neg (pv 2))) (pg_sub (pv 1) (pe_op op_sub (pe_callB call_abs (by rfl) B.abs (by decide +kernel) (pa_cons (pv 3) pa_nil)) pe_int) set_list))))
      (pss_one (ps_ret (pe_callTy call_tuple_of (by rfl) B.tuple (by decide +kernel) (pa_cons (pv 1) pa_nil))))), ?_⟩
    show tSeq _ _ _ [some (.ref a), none, none, none] H
    have ll := t.len
    refine seq_gen (fun σ' H' => ∃ g, σ' = [some (.ref a), some (.ref g), none, none] ∧ Same H H' ∧ H g = none ∧ H' g = some (.lst (L.map V.int))) (fun nx hnx => ?_) ?_
    · exact ⟨_, rfl, a, _, rfl, .inr hs, fun g hg => hnx _ _ ⟨g, rfl, Same.new hg, hg, upd_same⟩⟩
    rintro σ' H1 ⟨g, rfl, s1, ng, hg⟩
    refine seq_gen (fun σ' H' => ∃ (l2 l3 : Option V) (G : List Int), σ' = [some (.ref a), some (.ref g), l2, l3] ∧ Same H H' ∧ H' g = some (.lst (G.map V.int)) ∧ Bk n L G) (fun nx hnx => ?_) ?_
    · refine ⟨_, rfl, a, L.map V.int, 1, rfl, rfl, Same.sqt s1 hs, by decide, by decide, ?_⟩
      refine for_it (walk_enumC (xs := L.map V.int) (c := 1)) (fun j σ Hj => ∃ (l2 l3 : Option V) (G : List Int), σ = [some (.ref a), some (.ref g), l2, l3] ∧ Same H Hj ∧ Hj g = some (.lst (G.map V.int)) ∧ G.length = n ∧ ∀ i : Nat, i < j → gL G (L.getD i 0) = 1 + (i : Int)) ⟨none, none, L, rfl, s1, hg, ll, fun i h => absurd h (Nat.not_lt_zero i)⟩ (fun j σ Hj _ ⟨_, _, _, _, e, _⟩ => Same.sqt e hs) ?_ ?_
      · rintro j x σ Hj Hk hj ⟨l2, l3, G, rfl, ej, hGj, lG, inv⟩ ⟨T, y, rfl, nT, rfl, hy⟩
        rw [List.length_map] at hj
        rw [List.getElem?_map, List.getElem?_eq_getElem hj] at hy
        cases hy
        have sT : Same Hj (upd Hj T (.tup [.int (1 + (j : Nat)), V.int L[j]])) := Same.new nT
        have hT : upd Hj T (.tup [.int (1 + (j : Nat)), V.int L[j]]) T = some (.tup [.int (1 + (j : Nat)), V.int L[j]]) := upd_same
        generalize upd Hj T (.tup [.int (1 + (j : Nat)), V.int L[j]]) = Hk at *
        refine ⟨T, _, rfl, SqT.of hT, rfl, _, _, rfl, _, _, rfl, rfl, ?_⟩
        show tAsg _ _ _ [some (.ref a), some (.ref g), some (.int (1 + (j : Nat))), some (.int L[j])] Hk
        have bj := t.bd (List.getElem_mem hj)
        have hGk := sT _ _ hGj
        have step : ∀ v : Int, v = (if L[j] > 0 then 1 + (j : Int) else -(1 + (j : Int))) → rSetL (.ref g) (.int (absI L[j] - 1)) (.int v) Hk fun H4 => ∃ (l2 l3 : Option V) (G : List Int), [some (V.ref a), some (.ref g), some (.int (1 + (j : Nat))), some (.int L[j])] = [some (.ref a), some (.ref g), l2, l3] ∧ Same H H4 ∧ H4 g = some (.lst (G.map V.int)) ∧ G.length = n ∧ ∀ i : Nat, i < j + 1 → gL G (L.getD i 0) = 1 + (i : Int) := by
          rintro v rfl
          obtain ⟨k, ek⟩ := Int.eq_ofNat_of_zero_le (by omega : 0 ≤ absI L[j] - 1)
          refine p_set hGk (j := k) (by rw [ek]; exact ixN_nat (by rw [List.length_map]; omega)) ?_
          refine ⟨_, _, G.set k (if L[j] > 0 then 1 + (j : Int) else -(1 + (j : Int))), rfl, fun c o hc => ?_, by rw [upd_same, List.map_set], by rw [List.length_set]; exact lG, fun i hi => ?_⟩
          · have hcg : c ≠ g := ne_of_none hc ng
            rw [upd_ne hcg]
            exact sT _ _ (ej c o hc)
          · have ek2 : k = (absI L[j] - 1).toNat := by omega
            rw [ek2]
            by_cases hij : i = j
            · subst hij
              rw [gD hj]
              exact set_same ⟨bj.1, by rw [lG]; exact bj.2⟩
            · have hil : i < L.length := by omega
              have bi := t.bd (List.getElem_mem hil)
              rw [gD hil, set_other bj.1 bi.1, ← gD hil]
              · exact inv i (by omega)
              · have pw := List.pairwise_iff_getElem.mp t.nd i j (by rw [List.length_map]; exact hil) (by rw [List.length_map]; exact hj) (by omega)
                rw [List.getElem_map, List.getElem_map] at pw
                exact pw
        unfold tAsg gSub
        walk_at "rd"
        by_cases hp : 0 < L[j]
        · rw [decide_eq_true hp]
          exact iteT (step _ (by rw [if_pos hp]))
        · rw [decide_eq_false hp]
          exact iteF (step _ (by rw [if_neg hp]))
      · rintro σ Hj ⟨l2, l3, G, rfl, ej, hGj, lG, inv⟩
        rw [List.length_map, ll] at inv
        exact hnx _ _ ⟨l2, l3, G, rfl, ej, hGj, Bk.of t lG inv⟩
    rintro σ' H2 ⟨l2, l3, G, rfl, s2, hG, bk⟩
    walk_at "rd"
    exact ⟨g, _, rfl, .inl ⟨SqL.of hG, fun b hb => q b G _ bk (Same.trans s2 (Same.new hb)) upd_same⟩⟩
def spThen (K : PySem.W.Frag) : Sp := fun vs H Q _ => ∃ n : Nat, 1 ≤ n ∧ n ≤ 400 ∧ ∃ (a b : Addr) (L M : List Int), vs = [.ref a, .ref b] ∧ SqT K H a (L.map V.int) ∧ Trn n L ∧ SqT K H b (M.map V.int) ∧ Trn n M ∧ ∀ (c : Addr) (H' : Hp), Same H H' → H' c = some (.tup ((joined L M).map V.int)) → Q (.ref c) H'
def spBk (K : PySem.W.Frag) : Sp := fun vs H Q _ => ∃ n : Nat, 1 ≤ n ∧ n ≤ 400 ∧ ∃ (a : Addr) (L : List Int), vs = [.ref a] ∧ SqT K H a (L.map V.int) ∧ Trn n L ∧ ∀ (b : Addr) (B : List Int) (H' : Hp), Bk n L B → Same H H' → H' b = some (.tup (B.map V.int)) → Q (.ref b) H'
end
end Toy

-- part: B3
namespace Toy
open PySem L2
section
variable {P : Program} {w : World} {K : PySem.W.Frag} {mg : Str → Option Value} {base : Heap}
abbrev sJn : Stmt := s__law_joined
abbrev nJn : List Str := ["one", "other", "letter"]
theorem scJn : FnScope nJn ["one", "other"] (defScope sJn) := ⟨rfl, rfl, rfl, by decide +kernel, rfl, by decide +kernel, by decide +kernel⟩
def spJn (K : PySem.W.Frag) : Sp := fun vs H Q _ => ∃ (a b : Addr) (n : Nat) (L M : List Int), vs = [.ref a, .ref b] ∧ SqT K H a (L.map V.int) ∧ Trn n L ∧ n ≤ 400 ∧ SqT K H b (M.map V.int) ∧ M.length = n ∧ ∀ (c : Addr) (H' : Hp), Same H H' → H' c = some (.tup ((joined L M).map V.int)) → Q (.ref c) H'
def tJn (K : PySem.W.Frag) : TE := tCall (spGoes K) [] E0 (tCons (tVar 1) (tCons (tVar 2) tNil))
theorem ok_jn {f fG : Addr} {fd fdG : FuncData} (F : Fun K "_law_joined" "_law_joined" sJn f fd) (B : Bl mg) (G : Df K mg "_law_goes" sLGoes ["turn", "letter"] fG fdG) : FnOk P w K mg base CX0 2 f fd ["one", "other"] (spJn K) := by
  have GG : FnOk P w K mg base CX0 1 fG fdG ["turn", "letter"] (spGoes K) := ok_lgoes G.F
  refine F.ok scJn (fun vs H Q E h => ?_) (fun cdv A outer s H vs Q E hr h => ?_)
  · obtain ⟨a, b, n, L, M, rfl, _⟩ := h
    rfl
  · obtain ⟨a, b, n, L, M, rfl, hs, t, n4, hb, lM, q⟩ := h
    refine ⟨_, pss_one (ps_ret (pe_callTy call_tuple_of (by rfl) B.tuple (by decide +kernel) (pa_cons
        (pe_lc (own := [("letter", 2)]) (g := gName 2) (tt := tYes) (te := tJn K) rfl scJn.nd (pi_tup (pv 0)) (blkOk_by (own := [("letter", 2)]) (N := nJn) (sc := defScope sJn) (by decide +kernel))
          (fun _ _ _ _ _ => pg_name (i := 2) scJn.nd rfl (Or.inl rfl)) (fun _ _ _ _ _ => pts_nil) (fun _ _ _ _ _ => pe_call GG hr rfl G.g G.F.kp G.b .nil pass0 (pa_cons (pv 1) (pa_cons (pv 2) pa_nil)))) pa_nil))), ?_⟩
    show tRet _ _ [some (.ref a), some (.ref b), none] H
    walk_at "rd"
    have ll := t.len
    refine ⟨_, rfl, a, rfl, ⟨_, hs⟩, fun D hD => lc_tup (K := K) (a := a) (xs := L.map V.int) (fun j Hj => Same H Hj ∧ Hj D = some (.lst (((L.take j).map (gL M)).map V.int))) ⟨Same.new hD, upd_same⟩ (fun j Hj _ ⟨e, _⟩ => Same.sqt e hs) ?_ ?_⟩
    · rintro j x Hj hj ⟨ej, hDj⟩
      rw [List.getElem?_map] at hj
      cases ez : L[j]? with
      | none => rw [ez] at hj; cases hj
      | some z =>
      rw [ez] at hj
      cases hj
      have hjl : j < L.length := (List.getElem?_eq_some_iff.mp ez).1
      have bz := t.bd (List.mem_of_getElem? ez)
      refine ⟨rfl, yesT ?_⟩
      refine ⟨_, rfl, _, rfl, b, M, z, rfl, Same.sqt ej hb, bz.1, by rw [lM]; exact bz.2, _, hDj, by rw [List.length_map, List.length_map, List.length_take]; exact small1000 (by omega), fun c o hc => ?_, ?_⟩
      · rw [upd_ne (ne_of_none hc hD)]
        exact ej c o hc
      · rw [upd_same, List.take_add_one, ez]
        simp only [Option.toList_some, List.map_append, List.map_cons, List.map_nil]
    rintro H5 ⟨s5, hD5⟩
    rw [List.length_map, List.take_length] at hD5
    walk_at "rd"
    refine ⟨D, _, rfl, .inl ⟨SqL.of hD5, fun c hc => ?_⟩⟩
    exact q c _ (Same.trans s5 (Same.new hc)) upd_same
/-! ### a clause -/
abbrev nCs : List Str := ["draw", "many", "top", "pool", "size", "truths", "k", "truth"]
def spCs (K : PySem.W.Frag) : Sp := fun vs H Q _ => ∃ (d : Addr) (n : Nat) (t : Int) (sc : Addr) (ns : List Int), vs = [.ref d, .int n, .int t] ∧ 1 ≤ n ∧ n ≤ 400 ∧ 0 ≤ t ∧ DrA K sc ns H d ∧
  ∀ (a : Addr) (C : List Int) (H' : Hp), C.length ≤ n → (C.map absI).Nodup → C.Pairwise (fun x y => absI x ≤ absI y) → (∀ x ∈ C, Lt n x) → Ex d H H' → DrA K sc ns H' d → H' a = some (.tup (C.map V.int)) → H a = none → Q (.ref a) H'
def tPop3 (K : PySem.W.Frag) : TE := tBM K "list" rPopAt (tVar 3) (tCons (tCall (spNext K) [] E0 (tCons (tVar 0) (tCons (tCB (fun xs H Q => ∃ p ys, xs = [.ref p] ∧ (SqL K H p ys ∨ SqT K H p ys) ∧ Q (.int ys.length) H) (tCons (tVar 3) tNil)) tNil))) tNil)
def tSg7 (K : PySem.W.Frag) : TE := tOp (rIxL K) (tLst (tCons (tVar 7) (tCons (tUn (rU fun i => .int (-i)) (tVar 7)) tNil))) (tCall (spNext K) [] E0 (tCons (tVar 0) (tCons (tC (V.int 2)) tNil)))
/-! ### whether a clause holds -/
abbrev nHo : List Str := ["clause", "answer", "letter"]
def spHo (K : PySem.W.Frag) : Sp := fun vs H Q _ => ∃ (c b : Addr) (n : Nat) (C W : List Int), vs = [.ref c, .ref b] ∧ SqT K H c (C.map V.int) ∧ C.length ≤ 1000 ∧ (∀ l ∈ C, Lt n l) ∧ SqT K H b (W.map V.int) ∧ W.length = n ∧ ∀ H', Same H H' → Q (.bl (C.any (hd W))) H'
def tHo (K : PySem.W.Frag) : TE := tOp rEq (tOp (rIxT K) (tVar 1) (tOp (rI0 fun i j => .int (i - j)) (tCB (fun xs H Q => ∃ i, xs = [.int i] ∧ Q (.int (if i < 0 then -i else i)) H) (tCons (tVar 2) tNil)) (tC (V.int 1))))
  (tCB (fun xs H Q => (∃ i, xs = [.int i] ∧ Q (.int i) H) ∨ ∃ k, xs = [.bl k] ∧ Q (.int (if k then 1 else 0)) H) (tCons (tOp (rI0 fun i j => .bl (decide (j < i))) (tVar 2) (tC (V.int 0))) tNil))
/-! ### the turn that leads back, truth by truth -/
abbrev nTb : List Str := ["one", "found", "k", "letter"]
def tGet (K : PySem.W.Frag) : TE := tDGet (tVar 1) (tVar 2)
end
end Toy

-- part: AN0
namespace Toy
open PySem L2
/-! ### the search for answers, in numbers -/
def once (cs : List (List Int)) (l : Int) : List (List Int) := (cs.filter fun c => decide (l ∉ c)).map fun c => c.filter fun x => decide (x ≠ -l)
def Bits (n : Nat) (W : List Int) : Prop := W.length = n ∧ ∀ x ∈ W, x = 0 ∨ x = 1
def holdsC (W : List Int) (cs : List (List Int)) : Bool := cs.all fun c => c.any (hd W)
def LtCs (n : Nat) (cs : List (List Int)) : Prop := ∀ c ∈ cs, ∀ x ∈ c, Lt n x
theorem hd_neg {n : Nat} {W : List Int} (b : Bits n W) {l : Int} (h : Lt n l) : hd W (-l) = !hd W l := by
  unfold hd
  have hl := h
  unfold Lt at hl
  have hb : W.getD (absI l - 1).toNat 0 = 0 ∨ W.getD (absI l - 1).toNat 0 = 1 := by
    have hj : (absI l - 1).toNat < W.length := by rw [b.1]; omega
    rw [gD hj]
    exact b.2 _ (List.getElem_mem hj)
  rw [absI_neg]
  by_cases p : 0 < l
  · rw [if_neg (by omega), if_pos p]
    rcases hb with e | e <;> rw [e] <;> decide
  · have hz : l ≠ 0 := by
      intro z
      rw [z] at hl
      have : absI 0 = 0 := rfl
      omega
    rw [if_pos (by omega), if_neg p]
    rcases hb with e | e <;> rw [e] <;> decide
theorem lt_ne {n : Nat} {l : Int} (h : Lt n l) : l ≠ -l := by
  intro e
  unfold Lt absI at h
  split at h <;> omega
theorem mem_once {cs : List (List Int)} {l : Int} {d : List Int} : d ∈ once cs l ↔ ∃ c ∈ cs, l ∉ c ∧ d = c.filter fun x => decide (x ≠ -l) := by
  unfold once
  rw [List.mem_map]
  constructor
  · rintro ⟨c, hc, rfl⟩
    obtain ⟨h1, h2⟩ := List.mem_filter.mp hc
    exact ⟨c, h1, of_decide_eq_true h2, rfl⟩
  · rintro ⟨c, h1, h2, rfl⟩
    exact ⟨c, List.mem_filter.mpr ⟨h1, decide_eq_true h2⟩, rfl⟩
theorem holds_iff {W : List Int} {cs : List (List Int)} : holdsC W cs = true ↔ ∀ c ∈ cs, ∃ x ∈ c, hd W x = true := by
  unfold holdsC
  rw [List.all_eq_true]
  exact ⟨fun h c hc => List.any_eq_true.mp (h c hc), fun h c hc => List.any_eq_true.mpr (h c hc)⟩
theorem holds_once {n : Nat} {W : List Int} {cs : List (List Int)} {l : Int} (b : Bits n W) (hl : Lt n l) (t : hd W l = true) : holdsC W (once cs l) = holdsC W cs := by
  rw [Bool.eq_iff_iff, holds_iff, holds_iff]
  constructor
  · intro h c hc
    by_cases m : l ∈ c
    · exact ⟨l, m, t⟩
    · obtain ⟨x, hx, hx2⟩ := h _ (mem_once.mpr ⟨c, hc, m, rfl⟩)
      exact ⟨x, (List.mem_filter.mp hx).1, hx2⟩
  · intro h d hd'
    obtain ⟨c, hc, m, rfl⟩ := mem_once.mp hd'
    obtain ⟨x, hx, hx2⟩ := h c hc
    refine ⟨x, List.mem_filter.mpr ⟨hx, decide_eq_true fun e => ?_⟩, hx2⟩
    rw [e, hd_neg b hl, t] at hx2
    cases hx2
theorem lt_once {n : Nat} {cs : List (List Int)} {l : Int} (h : LtCs n cs) : LtCs n (once cs l) := fun d hd' x hx => by
  obtain ⟨c, hc, _, rfl⟩ := mem_once.mp hd'
  exact h c hc x (List.mem_filter.mp hx).1
/-- how much is left -/
def szC (cs : List (List Int)) : Nat := (cs.map fun c => c.length + 1).sum
theorem sz_cons (c : List Int) (cs : List (List Int)) : szC (c :: cs) = c.length + 1 + szC cs := by unfold szC; rw [List.map_cons, List.sum_cons]
theorem once_cons (c : List Int) (cs : List (List Int)) (l : Int) : once (c :: cs) l = if l ∈ c then once cs l else (c.filter fun x => decide (x ≠ -l)) :: once cs l := by
  unfold once
  rw [List.filter_cons]
  by_cases h : l ∈ c
  · rw [if_pos h, if_neg (by rw [decide_eq_false (not_not_intro h)]; decide)]
  · rw [if_neg h, if_pos (decide_eq_true h), List.map_cons]
theorem sz_le (l : Int) : ∀ cs : List (List Int), szC (once cs l) ≤ szC cs
  | [] => Nat.le_refl _
  | c :: r => by
    have ih := sz_le l r
    rw [once_cons, sz_cons]
    split
    · omega
    · rw [sz_cons]
      have := List.length_filter_le (fun x => decide (x ≠ -l)) c
      omega
theorem filter_lt {c : List Int} {p : Int → Bool} {x : Int} (hx : x ∈ c) (hp : p x = false) : (c.filter p).length < c.length := by
  have h1 := List.length_filter_le p c
  rcases Nat.lt_or_eq_of_le h1 with h | h
  · exact h
  · have := (List.length_filter_eq_length_iff.mp h) x hx
    rw [hp] at this
    cases this
theorem sz_lt {l : Int} : ∀ {cs : List (List Int)} {d : List Int}, d ∈ cs → (l ∈ d ∨ -l ∈ d) → szC (once cs l) < szC cs
  | c :: r, d, hd', hl => by
    rw [once_cons, sz_cons]
    rcases List.mem_cons.mp hd' with rfl | hd'
    · have := sz_le l r
      split
      · omega
      · rename_i nm
        rw [sz_cons]
        have hm : -l ∈ d := hl.resolve_left nm
        have := filter_lt (p := fun x => decide (x ≠ -l)) hm (by rw [decide_eq_false (not_not_intro rfl)])
        omega
    · have ih := sz_lt hd' hl
      split
      · omega
      · rw [sz_cons]
        have := List.length_filter_le (fun x => decide (x ≠ -l)) c
        omega
/-- letters by which some hold of each clause -/
structure WayOk (n : Nat) (way : List Int) (cs : List (List Int)) : Prop where
  lt : ∀ l ∈ way, Lt n l
  one : ∀ l ∈ way, -l ∉ way
  hit : ∀ c ∈ cs, ∃ l ∈ way, l ∈ c
theorem WayOk.once {n : Nat} {way : List Int} {cs : List (List Int)} {l : Int} (h : WayOk n way cs) (nl : -l ∉ way) : WayOk n way (once cs l) := by
  refine ⟨h.lt, h.one, fun d hd' => ?_⟩
  obtain ⟨c, hc, _, rfl⟩ := mem_once.mp hd'
  obtain ⟨x, hx, hx2⟩ := h.hit c hc
  exact ⟨x, hx, List.mem_filter.mpr ⟨hx2, decide_eq_true fun e => nl (e ▸ hx)⟩⟩
/-- the worths by a way -/
def wayW (n : Nat) (way : List Int) : List Int := (List.range n).map fun (i : Nat) => if (1 + (i : Int)) ∈ way then 1 else 0
theorem wayW_bits (n : Nat) (way : List Int) : Bits n (wayW n way) := by
  refine ⟨by unfold wayW; rw [List.length_map, List.length_range], fun x hx => ?_⟩
  unfold wayW at hx
  obtain ⟨i, _, rfl⟩ := List.mem_map.mp hx
  split
  · exact .inr rfl
  · exact .inl rfl
theorem wayW_hd {n : Nat} {way : List Int} (one : ∀ l ∈ way, -l ∉ way) {l : Int} (h : Lt n l) (hl : l ∈ way) : hd (wayW n way) l = true := by
  obtain ⟨j, hj, e⟩ := h.two
  unfold hd wayW
  rcases e with rfl | rfl
  · rw [absI_pos (by omega), show (1 + (j : Int) - 1).toNat = j by omega, List.getD_eq_getElem?_getD, List.getElem?_map, List.getElem?_range hj]
    rw [if_pos (by omega)]
    exact decide_eq_true (if_pos hl)
  · have e : absI (-(1 + (j : Int))) = 1 + (j : Int) := by rw [absI_neg, absI_pos (by omega)]
    rw [e, show (1 + (j : Int) - 1).toNat = j by omega, List.getD_eq_getElem?_getD, List.getElem?_map, List.getElem?_range hj]
    rw [if_neg (by omega)]
    refine decide_eq_true (if_neg fun z => ?_)
    have := one _ hl
    rw [Int.neg_neg] at this
    exact this z
theorem WayOk.sat {n : Nat} {way : List Int} {cs : List (List Int)} (h : WayOk n way cs) : ∃ W, Bits n W ∧ holdsC W cs = true := by
  refine ⟨wayW n way, wayW_bits n way, holds_iff.mpr fun c hc => ?_⟩
  obtain ⟨l, hl, hl2⟩ := h.hit c hc
  exact ⟨l, hl2, wayW_hd h.one (h.lt l hl) hl⟩
/-- a node: letters that were made so, and what is left of the clauses -/
structure NodeOk (n : Nat) (cs : List (List Int)) (z : List Int × List (List Int)) : Prop where
  lt : ∀ l ∈ z.1, Lt n l
  one : ∀ l ∈ z.1, -l ∉ z.1
  cov : ∀ c ∈ cs, (∃ l ∈ z.1, l ∈ c) ∨ ∃ d ∈ z.2, ∀ x ∈ d, x ∈ c
  off : ∀ d ∈ z.2, ∀ x ∈ d, x ∉ z.1 ∧ -x ∉ z.1
  ltc : LtCs n z.2
theorem NodeOk.root {n : Nat} {cs : List (List Int)} (h : LtCs n cs) : NodeOk n cs ([], cs) :=
  ⟨(fun _ h => nomatch h), (fun _ h => nomatch h), fun c hc => .inr ⟨c, hc, fun _ h => h⟩, fun _ _ _ _ => ⟨(fun h => nomatch h), (fun h => nomatch h)⟩, h⟩
theorem NodeOk.done {n : Nat} {cs : List (List Int)} {ls : List Int} (h : NodeOk n cs (ls, [])) : WayOk n ls cs :=
  ⟨h.lt, h.one, fun c hc => (h.cov c hc).elim id fun ⟨_, hd', _⟩ => nomatch hd'⟩
theorem NodeOk.next {n : Nat} {cs : List (List Int)} {z : List Int × List (List Int)} (h : NodeOk n cs z) {l : Int} {d : List Int} (hd' : d ∈ z.2) (hl : l ∈ d ∨ -l ∈ d) : NodeOk n cs (z.1 ++ [l], Toy.once z.2 l) := by
  have lt : Lt n l := by
    rcases hl with hl | hl
    · exact h.ltc d hd' l hl
    · have := (h.ltc d hd' _ hl).neg
      rw [Int.neg_neg] at this
      exact this
  have off : l ∉ z.1 ∧ -l ∉ z.1 := by
    rcases hl with hl | hl
    · exact h.off d hd' l hl
    · have := h.off d hd' _ hl
      rw [Int.neg_neg] at this
      exact ⟨this.2, this.1⟩
  refine ⟨fun x hx => ?_, fun x hx => ?_, fun c hc => ?_, fun e he x hx => ?_, lt_once h.ltc⟩
  · rcases List.mem_append.mp hx with hx | hx
    · exact h.lt x hx
    · rw [List.mem_singleton.mp hx]
      exact lt
  · intro hm
    rcases List.mem_append.mp hx with hx | hx
    · rcases List.mem_append.mp hm with hm | hm
      · exact h.one x hx hm
      · have e : l = -x := (List.mem_singleton.mp hm).symm
        refine off.2 ?_
        rw [e, Int.neg_neg]
        exact hx
    · rw [List.mem_singleton.mp hx] at hm
      rcases List.mem_append.mp hm with hm | hm
      · exact off.2 hm
      · exact lt_ne lt (List.mem_singleton.mp hm).symm
  · rcases h.cov c hc with ⟨x, hx, hxc⟩ | ⟨e, he, hs⟩
    · exact .inl ⟨x, List.mem_append_left _ hx, hxc⟩
    · by_cases m : l ∈ e
      · exact .inl ⟨l, List.mem_append_right _ (List.mem_singleton.mpr rfl), hs l m⟩
      · exact .inr ⟨_, mem_once.mpr ⟨e, he, m, rfl⟩, fun x hx => hs x (List.mem_filter.mp hx).1⟩
  · obtain ⟨c, hc, nm, rfl⟩ := mem_once.mp he
    obtain ⟨hx1, hx2⟩ := List.mem_filter.mp hx
    have hx2 : x ≠ -l := of_decide_eq_true hx2
    have o := h.off c hc x hx1
    refine ⟨fun hm => ?_, fun hm => ?_⟩
    · rcases List.mem_append.mp hm with hm | hm
      · exact o.1 hm
      · rw [List.mem_singleton.mp hm] at hx1
        exact nm hx1
    · rcases List.mem_append.mp hm with hm | hm
      · exact o.2 hm
      · refine hx2 ?_
        rw [← List.mem_singleton.mp hm, Int.neg_neg]
/-- what is chosen of a clause -/
def choiceL (c : List Int) : List Int := match c with
  | [] => []
  | [x] => [x]
  | x :: _ :: _ => [-x, x]
theorem choice_in {c : List Int} {l : Int} (h : l ∈ choiceL c) : l ∈ c ∨ -l ∈ c := by
  match c, h with
  | [x], h => exact .inl h
  | x :: y :: r, h =>
    simp only [choiceL, List.mem_cons, List.not_mem_nil, or_false] at h
    rcases h with rfl | rfl
    · exact .inr (by rw [Int.neg_neg]; exact List.mem_cons_self)
    · exact .inl List.mem_cons_self
theorem choice_some {n : Nat} {W : List Int} {cs : List (List Int)} (b : Bits n W) (lt : LtCs n cs) (h : holdsC W cs = true) {d : List Int} (hd' : d ∈ cs) : ∃ l ∈ choiceL d, Lt n l ∧ hd W l = true := by
  have h1 := holds_iff.mp h d hd'
  match d, hd', h1 with
  | [], _, ⟨x, hx, _⟩ => cases hx
  | [x], hd', ⟨y, hy, t⟩ =>
    rw [List.mem_singleton.mp hy] at t
    exact ⟨x, List.mem_singleton.mpr rfl, lt _ hd' x (List.mem_singleton.mpr rfl), t⟩
  | x :: y :: r, hd', _ =>
    have hx := lt _ hd' x List.mem_cons_self
    cases e : hd W x with
    | true => exact ⟨x, by simp [choiceL], hx, e⟩
    | false => exact ⟨-x, by simp [choiceL], hx.neg, by rw [hd_neg b hx, e]; rfl⟩
/-! ### all worths, rising -/
def allb : Nat → List (List Int)
  | 0 => [[]]
  | n + 1 => (allb n).flatMap fun p => [p ++ [0], p ++ [1]]
theorem allb_len : ∀ {n : Nat} {p : List Int}, p ∈ allb n → Bits n p
  | 0, p, h => by
    rw [List.mem_singleton.mp h]
    exact ⟨rfl, fun _ h => nomatch h⟩
  | n + 1, p, h => by
    obtain ⟨q, hq, hp⟩ := List.mem_flatMap.mp h
    obtain ⟨l, b⟩ := allb_len hq
    simp only [List.mem_cons, List.not_mem_nil, or_false] at hp
    rcases hp with rfl | rfl
    · refine ⟨by rw [List.length_append, l]; rfl, fun x hx => ?_⟩
      rcases List.mem_append.mp hx with hx | hx
      · exact b x hx
      · exact .inl (List.mem_singleton.mp hx)
    · refine ⟨by rw [List.length_append, l]; rfl, fun x hx => ?_⟩
      rcases List.mem_append.mp hx with hx | hx
      · exact b x hx
      · exact .inr (List.mem_singleton.mp hx)
theorem allb_mem : ∀ {n : Nat} {p : List Int}, Bits n p → p ∈ allb n
  | 0, p, ⟨l, _⟩ => by
    rw [List.eq_nil_of_length_eq_zero l]
    exact List.mem_singleton.mpr rfl
  | n + 1, p, ⟨l, b⟩ => by
    obtain ⟨q, x, rfl⟩ : ∃ (q : List Int) (x : Int), p = q ++ [x] := ⟨_, _, (List.dropLast_concat_getLast (fun z => by rw [z] at l; cases l)).symm⟩
    have lq : q.length = n := by
      rw [List.length_append] at l
      exact Nat.succ.inj l
    refine List.mem_flatMap.mpr ⟨q, allb_mem ⟨lq, fun y hy => b y (List.mem_append_left _ hy)⟩, ?_⟩
    rcases b x (List.mem_append_right _ (List.mem_singleton.mpr rfl)) with rfl | rfl <;> simp
/-- the clauses behind the first worths -/
def resW (cs : List (List Int)) (p : List Int) : List (List Int) := (List.range p.length).foldl (fun acc (i : Nat) => once acc (if p.getD i 0 = 1 then 1 + (i : Int) else -(1 + (i : Int)))) cs
theorem res_snoc (cs : List (List Int)) (p : List Int) (x : Int) : resW cs (p ++ [x]) = once (resW cs p) (if x = 1 then 1 + (p.length : Int) else -(1 + (p.length : Int))) := by
  unfold resW
  rw [List.length_append, List.length_singleton, List.range_succ, List.foldl_append]
  have e1 : ∀ (l : List Nat) (acc : List (List Int)), (∀ i ∈ l, i < p.length) → l.foldl (fun acc (i : Nat) => once acc (if (p ++ [x]).getD i 0 = 1 then 1 + (i : Int) else -(1 + (i : Int)))) acc = l.foldl (fun acc (i : Nat) => once acc (if p.getD i 0 = 1 then 1 + (i : Int) else -(1 + (i : Int)))) acc := by
    intro l
    induction l with
    | nil => intro _ _; rfl
    | cons a r ih =>
      intro acc h
      have ha := h a List.mem_cons_self
      have e : (p ++ [x]).getD a 0 = p.getD a 0 := by
        rw [List.getD_eq_getElem?_getD, List.getD_eq_getElem?_getD, List.getElem?_append_left ha]
      rw [List.foldl_cons, List.foldl_cons, e]
      exact ih _ fun i hi => h i (List.mem_cons_of_mem _ hi)
  rw [e1 _ _ fun i hi => List.mem_range.mp hi]
  show once _ _ = _
  have e2 : (p ++ [x]).getD p.length 0 = x := by
    rw [List.getD_eq_getElem?_getD, List.getElem?_append_right (Nat.le_refl _), Nat.sub_self]
    rfl
  rw [e2]
def Sat (n : Nat) (cs : List (List Int)) : Prop := ∃ W, Bits n W ∧ holdsC W cs = true
theorem lt_res {n : Nat} {cs : List (List Int)} (h : LtCs n cs) (p : List Int) : LtCs n (resW cs p) := by
  unfold resW
  generalize List.range p.length = l
  revert h
  induction l generalizing cs with
  | nil => exact fun h => h
  | cons a r ih => exact fun h => ih (lt_once h)

theorem res_far {n : Nat} {cs : List (List Int)} (h : LtCs n cs) : ∀ (k : Nat) (p : List Int), p.length = k → ∀ d ∈ resW cs p, ∀ x ∈ d, (k : Int) < absI x
  | 0, p, l => by
    rw [List.eq_nil_of_length_eq_zero l]
    intro d hd' x hx
    have := (h d hd' x hx).1
    omega
  | k + 1, p, l => by
    obtain ⟨q, y, rfl⟩ : ∃ (q : List Int) (y : Int), p = q ++ [y] := ⟨_, _, (List.dropLast_concat_getLast (fun z => by rw [z] at l; cases l)).symm⟩
    have lq : q.length = k := by
      rw [List.length_append] at l
      exact Nat.succ.inj l
    have ih := res_far h k q lq
    intro d hd' x hx
    rw [res_snoc, lq] at hd'
    obtain ⟨c, hc, nm, rfl⟩ := mem_once.mp hd'
    obtain ⟨hx1, hx2⟩ := List.mem_filter.mp hx
    have hx2 := of_decide_eq_true hx2
    have i1 := ih c hc x hx1
    have n1 : x ≠ (if y = 1 then 1 + (k : Int) else -(1 + (k : Int))) := fun e => nm (e ▸ hx1)
    have n2 : absI x ≠ 1 + (k : Int) := by
      intro e
      unfold absI at e
      split at n1 <;> split at e <;> simp_all <;> omega
    omega
theorem hd_take {V : List Int} {k : Nat} {x y : Int} {q : List Int} (hl : q.length = k) (h : V.take (k + 1) = q ++ [y]) (hy : y = 0 ∨ y = 1) : hd V (if y = 1 then 1 + (k : Int) else -(1 + (k : Int))) = true := by
  have e : V.getD k 0 = y := by
    have h1 : (V.take (k + 1))[k]? = some y := by
      rw [h, List.getElem?_append_right (by omega), hl, Nat.sub_self]
      rfl
    rw [List.getElem?_take_of_lt (Nat.lt_succ_self k)] at h1
    rw [List.getD_eq_getElem?_getD, h1]
    rfl
  unfold hd
  rcases hy with rfl | rfl
  · rw [if_neg (by decide), absI_neg, absI_pos (by omega), show (1 + (k : Int) - 1).toNat = k by omega, e, if_neg (by omega)]
    rfl
  · rw [if_pos rfl, absI_pos (by omega), show (1 + (k : Int) - 1).toNat = k by omega, e, if_pos (by omega)]
    rfl
theorem res_agree {n : Nat} {cs : List (List Int)} {V : List Int} (b : Bits n V) (h : LtCs n cs) : ∀ (k : Nat) (p : List Int), p.length = k → k ≤ n → V.take k = p → holdsC V (resW cs p) = holdsC V cs
  | 0, p, l, _, _ => by
    rw [List.eq_nil_of_length_eq_zero l]
    rfl
  | k + 1, p, l, hk, ht => by
    obtain ⟨q, y, rfl⟩ : ∃ (q : List Int) (y : Int), p = q ++ [y] := ⟨_, _, (List.dropLast_concat_getLast (fun z => by rw [z] at l; cases l)).symm⟩
    have lq : q.length = k := by
      rw [List.length_append] at l
      exact Nat.succ.inj l
    have hy : y = 0 ∨ y = 1 := b.2 y (List.mem_of_mem_take (ht ▸ List.mem_append_right _ (List.mem_singleton.mpr rfl)))
    have tq : V.take k = q := by
      have := congrArg (List.take k) ht
      rw [List.take_take, Nat.min_eq_left (Nat.le_succ k), List.take_append_of_le_length (by omega), List.take_of_length_le (Nat.le_of_eq lq : q.length ≤ k)] at this
      exact this
    have lt : Lt n (if y = 1 then 1 + (k : Int) else -(1 + (k : Int))) := by
      have := Lt.nat (n := n) (j := k) (by omega)
      split
      · exact this
      · exact this.neg
    rw [res_snoc, lq, holds_once b lt (hd_take (x := 0) lq ht hy)]
    exact res_agree b h k q lq (by omega) tq
theorem sat_res {n : Nat} {cs : List (List Int)} (h : LtCs n cs) {p : List Int} (hp : p.length ≤ n) (bp : ∀ x ∈ p, x = 0 ∨ x = 1) : Sat n (resW cs p) ↔ ∃ V, Bits n V ∧ V.take p.length = p ∧ holdsC V cs = true := by
  constructor
  · rintro ⟨W, bW, hW⟩
    have bV : Bits n (p ++ W.drop p.length) := by
      refine ⟨by rw [List.length_append, List.length_drop, bW.1]; omega, fun x hx => ?_⟩
      rcases List.mem_append.mp hx with hx | hx
      · exact bp x hx
      · exact bW.2 x (List.mem_of_mem_drop hx)
    have tV : (p ++ W.drop p.length).take p.length = p := by rw [List.take_append_of_le_length (Nat.le_refl _), List.take_length]
    refine ⟨_, bV, tV, ?_⟩
    rw [← res_agree bV h p.length p rfl hp tV]
    refine holds_iff.mpr fun d hd' => ?_
    obtain ⟨x, hx, t⟩ := holds_iff.mp hW d hd'
    refine ⟨x, hx, ?_⟩
    have far := res_far h p.length p rfl d hd' x hx
    have e : (p ++ W.drop p.length).getD (absI x - 1).toNat 0 = W.getD (absI x - 1).toNat 0 := by
      rw [List.getD_eq_getElem?_getD, List.getD_eq_getElem?_getD, List.getElem?_append_right (by omega), List.getElem?_drop]
      congr 2
      omega
    unfold hd at t ⊢
    rw [e]
    exact t
  · rintro ⟨V, bV, tV, hV⟩
    exact ⟨V, bV, by rw [res_agree bV h p.length p rfl hp tV]; exact hV⟩
def ansL (n : Nat) (cs : List (List Int)) : List (List Int) := (allb n).filter fun p => holdsC p cs
open Classical in
noncomputable def stL (n : Nat) (cs : List (List Int)) : Nat → List (List Int)
  | 0 => if Sat n cs then [[]] else []
  | k + 1 => (stL n cs k).flatMap fun p => [p ++ [0], p ++ [1]].filter fun q => decide (Sat n (resW cs q))
open Classical in
theorem st_filter {n : Nat} {cs : List (List Int)} (h : LtCs n cs) : ∀ k, k ≤ n → stL n cs k = (allb k).filter fun p => decide (Sat n (resW cs p))
  | 0, _ => by
    show (if Sat n cs then [[]] else []) = ([[]] : List (List Int)).filter fun p => decide (Sat n (resW cs p))
    have e : resW cs [] = cs := rfl
    by_cases s : Sat n cs
    · rw [if_pos s, List.filter_cons, if_pos (by rw [e]; exact decide_eq_true s)]
      rfl
    · rw [if_neg s, List.filter_cons, if_neg (by rw [e, decide_eq_false s]; decide)]
      rfl
  | k + 1, hk => by
    have ih := st_filter h k (by omega)
    have up : ∀ p ∈ allb k, ∀ x : Int, (x = 0 ∨ x = 1) → Sat n (resW cs (p ++ [x])) → Sat n (resW cs p) := by
      intro p hp x hx s
      obtain ⟨lp, bp⟩ := allb_len hp
      have l1 : (p ++ [x]).length = k + 1 := by rw [List.length_append, lp]; rfl
      obtain ⟨V, bV, tV, hV⟩ := (sat_res h (p := p ++ [x]) (by omega) fun y hy => (List.mem_append.mp hy).elim (bp y) fun hy => by rw [List.mem_singleton.mp hy]; exact hx).mp s
      refine (sat_res h (by omega) bp).mpr ⟨V, bV, ?_, hV⟩
      have := congrArg (List.take k) tV
      rw [l1, List.take_take, Nat.min_eq_left (Nat.le_succ k), List.take_append_of_le_length (by omega), List.take_of_length_le (Nat.le_of_eq lp : p.length ≤ k)] at this
      rw [lp]
      exact this
    show (stL n cs k).flatMap _ = _
    rw [ih]
    show _ = ((allb k).flatMap fun p => [p ++ [0], p ++ [1]]).filter _
    have key : ∀ l : List (List Int), (∀ p ∈ l, p ∈ allb k) → (l.filter fun p => decide (Sat n (resW cs p))).flatMap (fun p => [p ++ [0], p ++ [1]].filter fun q => decide (Sat n (resW cs q))) = (l.flatMap fun p => [p ++ [0], p ++ [1]]).filter fun q => decide (Sat n (resW cs q)) := by
      intro l
      induction l with
      | nil => intro _; rfl
      | cons a r ih2 =>
        intro hl
        have i2 := ih2 fun p hp => hl p (List.mem_cons_of_mem _ hp)
        rw [List.flatMap_cons, List.filter_append, ← i2, List.filter_cons]
        by_cases s : Sat n (resW cs a)
        · rw [if_pos (decide_eq_true s), List.flatMap_cons]
        · rw [if_neg (by rw [decide_eq_false s]; decide)]
          have e : ([a ++ [0], a ++ [1]].filter fun q => decide (Sat n (resW cs q))) = [] := by
            rw [List.filter_eq_nil_iff]
            intro q hq
            have ha := hl a List.mem_cons_self
            simp only [List.mem_cons, List.not_mem_nil, or_false] at hq
            rcases hq with rfl | rfl
            · rw [decide_eq_false fun z => s (up a ha 0 (.inl rfl) z)]
              decide
            · rw [decide_eq_false fun z => s (up a ha 1 (.inr rfl) z)]
              decide
          rw [e, List.nil_append]
    exact key (allb k) fun p hp => hp
open Classical in
theorem st_ans {n : Nat} {cs : List (List Int)} (h : LtCs n cs) : stL n cs n = ansL n cs := by
  rw [st_filter h n (Nat.le_refl n)]
  unfold ansL
  refine List.filter_congr fun p hp => ?_
  obtain ⟨lp, bp⟩ := allb_len hp
  rw [Bool.eq_iff_iff, decide_eq_true_eq, sat_res h (by omega) bp]
  constructor
  · rintro ⟨V, bV, tV, hV⟩
    rw [lp, List.take_of_length_le (Nat.le_of_eq bV.1)] at tV
    rw [← tV]
    exact hV
  · intro hV
    exact ⟨p, ⟨lp, bp⟩, List.take_length, hV⟩
theorem ans_mem {n : Nat} {cs : List (List Int)} {p : List Int} : p ∈ ansL n cs ↔ Bits n p ∧ holdsC p cs = true := by
  unfold ansL
  rw [List.mem_filter]
  exact ⟨fun h => ⟨allb_len h.1, h.2⟩, fun h => ⟨allb_mem h.1, h.2⟩⟩
end Toy

-- part: EN1
/-! enumerate of a tuple -/
namespace EnT
open PySem
open PySem.AutoSeq1 (wpAny_loadPart')
theorem made (l : Addr) (items : Array Value) (n : Nat) (dct : Option Addr) (sl : Array (Option Value)) :
    Meets (Builtin.«enumerate.__new__» ⟨[.type "enumerate", .ref l], []⟩) (fun _ R s => s.heap.get? l = some { cls := .type "tuple", dict := dct, data := .seq items n, slots := sl } ∧
      R (.ok (.ret (.ref (s.heap.push { cls := .type "tuple_iterator", data := .fields #[.ref l, .int 0 0] }).objs.size)))
        { s with heap := (s.heap.push { cls := .type "tuple_iterator", data := .fields #[.ref l, .int 0 0] }).push { cls := .type "enumerate", data := .fields #[.none, .bool false, .ref s.heap.objs.size, rawInt 0, .none, .none] } }) :=
  .of_wp fun prog w A R s h => by
    obtain ⟨hp, g, d, tk, os⟩ := s
    obtain ⟨hl, h⟩ := h
    have hsub := sub_enumerate
    have hL : Heap.IsTuple (Shared.heap ⟨hp, g, d, tk, os⟩) l items := ⟨_, hl, rfl, n, rfl⟩
    wp_walk using wpAny_loadPart' hl
    refine wpAny_stack_any fun st => wpAny_pure ?_
    split
    · rename_i c _ _ _ _ _
      cases (c == Value.type "enumerate")
      · wp_walk using wpAny_loadPart' hl, wpAny_pyIter_tuple hL
        exact ⟨_, rfl, h⟩
      · wp_walk using wpAny_loadPart' hl, wpAny_pyIter_tuple hL
        exact ⟨_, rfl, h⟩
    · wp_walk using wpAny_loadPart' hl, wpAny_pyIter_tuple hL
      exact ⟨_, rfl, h⟩
section
variable {prog : Program} {w : World} {A : Around} {E : Value → Shared → Prop} {s : Shared}
theorem call_enum {l : Addr} {items : Array Value} {Q : Value → Shared → Prop} (hL : s.heap.IsTuple l items)
    (h : ∀ h', IsEnum h' (s.heap.objs.size + 1) s.heap.objs.size 0 .none → h'.IsTupleIter s.heap.objs.size l 0 → (∀ b o, s.heap.get? b = some o → h'.get? b = some o) → Q (.ref (s.heap.objs.size + 1)) { s with heap := h' }) :
    wpAny (model prog w) A (call (.type "enumerate") [.ref l]) Q E s := by
  obtain ⟨⟨c, dct, dt, sl⟩, hl, hc, n, hd⟩ := hL
  obtain rfl : c = .type "tuple" := hc
  obtain rfl : dt = .seq items n := hd
  refine callType_new F.called_enumerate (by decide) (F.typeCall_enumerate_1 _) (F.newCall_enumerate_1 _) (fun obj => F.args_object_init_2 obj _) F.entry_enumerate_new (made l items n dct sl) ⟨hl, ?_⟩
  have hz : (s.heap.push { cls := .type "tuple_iterator", data := .fields #[.ref l, .int 0 0] }).objs.size = s.heap.objs.size + 1 := Heap.size_push ..
  have q := Heap.get?_push_size (s.heap.push { cls := .type "tuple_iterator", data := .fields #[.ref l, .int 0 0] }) (o := { cls := .type "enumerate", data := .fields #[.none, .bool false, .ref s.heap.objs.size, rawInt 0, .none, .none] }) rfl
  rw [hz] at q
  show _ ∧ _
  rw [hz]
  exact ⟨⟨_, q, rfl⟩, h _ q ⟨_, Heap.get?_push_of_some _ (Heap.get?_push_size _ rfl), rfl, rfl⟩ fun b o x => Heap.get?_push_of_some _ (Heap.get?_push_of_some _ x)⟩
/-- one turn: y, the iterator below, hands out x -/
theorem next_item {e it l : Addr} {i : Nat} {items : Array Value} {x old : Value} {Q : Option Value → Shared → Prop}
    (he : IsEnum s.heap e it i old) (hit : s.heap.IsTupleIter it l i) (hl : s.heap.IsTuple l items) (hx : items[i]? = some x) (hne : e ≠ it)
    (hQ : ∀ h', IsEnumOut h' e it ((i : Int) + 1) x s.heap.objs.size → h'.IsTupleIter it l (i + 1) → h'.get? s.heap.objs.size = some { cls := .type "tuple", data := .seq #[.int i s.toks, x] } →
      (∀ b o, b ≠ e → b ≠ it → s.heap.get? b = some o → h'.get? b = some o) → Q (some (.ref s.heap.objs.size)) { s with heap := h', toks := s.toks + 1 }) :
    wpAny (model prog w) A (pyNext (.ref e)) Q E s := by
  have hT : s.TypeIs (.ref e) "enumerate" := ⟨_, he, rfl⟩
  unfold pyNext
  refine wpAny_bind (wpAny_attempt (wpAny_callSpecial?_slot (name := Str.ofString "__next__") hT F.slot_enumerate_next (wpAny_call_entry F.slot_enumerate_next hT F.entry_enumerate_next ?_ (F.args_enumerate_next_1 _))))
  obtain ⟨hp, g, d, tk, os⟩ := s
  show wpAny _ _ (field (.ref e) 2 >>= _) _ _ _
  refine wpAny_bind (wpAny_field he rfl (x := .ref it) rfl (wpAny_bind (RZ.nextOf_tuple_item hit hl hx fun h1 hit1 k1 => ?_)))
  have k1 : Heap.SameBut it hp h1 := k1
  have he1 : IsEnum h1 e it i old := (k1.2 e hne).trans he
  show wpAny _ _ (field (.ref e) 3 >>= _) _ _ ⟨h1, g, d, tk, os⟩
  refine wpAny_bind (wpAny_field he1 rfl (x := rawInt i) rfl ?_)
  show wpAny _ _ (field (.ref e) 4 >>= _) _ _ ⟨h1, g, d, tk, os⟩
  refine wpAny_bind (wpAny_field he1 rfl (x := .none) rfl ?_)
  show wpAny _ _ (mkInt i >>= _) _ _ ⟨h1, g, d, tk, os⟩
  refine wpAny_bind (wpAny_mkInt ?_)
  refine wpAny_bind (wpAny_setField_rec (s := ⟨h1, g, d, tk + 1, os⟩) he1 (by simp) fun h2 he2 k2 => ?_)
  have k2 : Heap.SameBut e h1 h2 := k2
  have he2 : IsEnum h2 e it ((i : Int) + 1) old := he2
  refine wpAny_bind (wpAny_setField_rec (s := ⟨h2, g, d, tk + 1, os⟩) he2 (by simp) fun h3 he3 k3 => ?_)
  have k3 : Heap.SameBut e h2 h3 := k3
  have he3 : IsEnum h3 e it ((i : Int) + 1) old := he3
  have z3 : h3.objs.size = hp.objs.size := by rw [k3.1, k2.1, k1.1]
  have hel : e < hp.objs.size := Heap.lt_size he
  show wpAny _ _ (newTuple [.int i tk, x] >>= _) _ _ ⟨h3, g, d, tk + 1, os⟩
  refine wpAny_bind (wpAny_newTuple ?_)
  have he4 : IsEnum (h3.push { cls := .type "tuple", data := .seq #[.int i tk, x] }) e it ((i : Int) + 1) old := Heap.get?_push_of_some _ he3
  have ht4 : (h3.push { cls := .type "tuple", data := .seq #[.int i tk, x] }).get? hp.objs.size = some { cls := .type "tuple", data := .seq #[.int i tk, x] } := by rw [← z3]; exact Heap.get?_push_size _ rfl
  have kk : ∀ b o, b ≠ e → b ≠ it → hp.get? b = some o → (h3.push { cls := .type "tuple", data := .seq #[.int i tk, x] }).get? b = some o := fun b o n1 n2 q =>
    Heap.get?_push_of_some _ (k3.extBut b o n1 (k2.extBut b o n1 (k1.extBut b o n2 q)))
  have hit4 : (h3.push { cls := .type "tuple", data := .seq #[.int i tk, x] }).IsTupleIter it l (i + 1) := by
    obtain ⟨o, ho, r⟩ := (hit1.extBut k2.extBut (Ne.symm hne)).extBut k3.extBut (Ne.symm hne)
    exact ⟨o, Heap.get?_push_of_some _ ho, r⟩
  rw [z3]
  generalize h3.push { cls := .type "tuple", data := .seq #[.int i tk, x] } = h4 at he4 ht4 kk hit4
  show wpAny _ _ (Builtin.SmallTypes.ownedTupleIsFree (.ref e) >>= _) _ _ ⟨h4, g, d, tk + 1, os⟩
  refine wpAny_bind ?_
  unfold Builtin.SmallTypes.ownedTupleIsFree
  refine wpAny_bind (wpAny_field he4 rfl (x := .none) rfl (wpAny_pure ?_))
  simp only [if_true]
  refine wpAny_bind (wpAny_rule (wpAny_bind (wpAny_field he4 rfl (x := old) rfl ?_)))
  refine wpAny_bind (wpAny_setField_rec (s := ⟨h4, g, d, tk + 1, os⟩) he4 (by simp) fun h5 he5 k5 => ?_)
  have k5 : Heap.SameBut e h4 h5 := k5
  have he5 : IsEnum h5 e it ((i : Int) + 1) x := he5
  show wpAny _ _ (Builtin.SmallTypes.ownedTupleHandOut (.ref e) (.ref hp.objs.size) >>= _) _ _ ⟨h5, g, d, tk + 1, os⟩
  refine wpAny_bind ?_
  unfold Builtin.SmallTypes.ownedTupleHandOut
  refine wpAny_bind (wpAny_setField_rec he5 (by simp) fun h6 he6 k6 => ?_)
  have k6 : Heap.SameBut e h5 h6 := k6
  have he6 : IsEnumOut h6 e it ((i : Int) + 1) x hp.objs.size := he6
  refine wpAny_setField_rec he6 (by simp) fun h7 he7 k7 => ?_
  have k7 : Heap.SameBut e h6 h7 := k7
  have he7 : IsEnumOut h7 e it ((i : Int) + 1) x hp.objs.size := he7
  refine wpAny_bind (wpAny_letGo (wpAny_pure ⟨_, rfl, wpAny_pure (hQ h7 he7 ?_ ?_ ?_)⟩))
  · exact ((hit4.extBut k5.extBut (Ne.symm hne)).extBut k6.extBut (Ne.symm hne)).extBut k7.extBut (Ne.symm hne)
  · exact k7.extBut _ _ (Nat.ne_of_gt hel) (k6.extBut _ _ (Nat.ne_of_gt hel) (k5.extBut _ _ (Nat.ne_of_gt hel) ht4))
  · exact fun b o n1 n2 q => k7.extBut b o n1 (k6.extBut b o n1 (k5.extBut b o n1 (kk b o n1 n2 q)))
theorem next_end {e it l : Addr} {i : Nat} {items : Array Value} {old : Value} {Q : Option Value → Shared → Prop} (hh : A.handled = none)
    (he : IsEnum s.heap e it i old) (hit : s.heap.IsTupleIter it l i) (hl : s.heap.IsTuple l items) (hx : items[i]? = none)
    (hQ : ∀ h', Heap.ExtBut it s.heap h' → Q none { s with heap := h' }) : wpAny (model prog w) A (pyNext (.ref e)) Q E s := by
  have hT : s.TypeIs (.ref e) "enumerate" := ⟨_, he, rfl⟩
  unfold pyNext
  refine wpAny_bind (wpAny_attempt (wpAny_callSpecial?_slot (name := Str.ofString "__next__") hT F.slot_enumerate_next (wpAny_call_entry F.slot_enumerate_next hT F.entry_enumerate_next ?_ (F.args_enumerate_next_1 _))))
  show wpAny _ _ (field (.ref e) 2 >>= _) _ _ _
  refine wpAny_bind (wpAny_field he rfl (x := .ref it) rfl (wpAny_bind (RZ.nextOf_tuple_end hh hit hl hx fun h' y ke hy => ?_)))
  obtain ⟨o, ho, hc⟩ := hy
  exact wpAny_bind (wpAny_isInstance (T := "StopIteration") (b := true) ⟨o, ho, hc⟩ isSubtype_stop (wpAny_pure (hQ _ ke)))
end
end EnT
namespace L2
open PySem PySem.Spec PyProof.Rows
/-- the tuple at a, each item in a new pair -/
def IteT (K : PySem.W.Frag) (a : Addr) : It :=
  ⟨fun i H => ∃ (xs : List V) (x : V), SqT K H a xs ∧ xs[i]? = some x, fun i H v H' => ∃ T x, v = .ref T ∧ H T = none ∧ H' = upd H T (.tup [.int (i : Nat), x]) ∧ ∀ xs, SqT K H a xs → xs[i]? = some x, fun i H => ∃ xs : List V, SqT K H a xs ∧ xs.length ≤ i⟩
theorem turn_enumT {P : Program} {w : World} {K : PySem.W.Frag} {elts : List Expr} {kk : Nat} {tpos : Pos} (a e it : Addr) :
    Turn P w K (.Tuple elts kk tpos) (IteT K a) [e, it] e (fun i h => (∃ old, IsEnum h e it ((i : Nat) : Int) old) ∧ h.IsTupleIter it a i ∧ e ≠ it) where
  mem := by simp
  obj := fun i h ⟨⟨old, he⟩, ⟨o, ho, hc, hd⟩, _⟩ b hb => by
    rcases (show b = e ∨ b = it by simpa using hb) with z | z
    · rw [z]; exact ⟨_, he, fun v q => nomatch q⟩
    · rw [z]; exact ⟨o, ho, fun v q => by rw [hd] at q; cases q⟩
  keep := fun i h h' st k => let ⟨⟨old, he⟩, hi, hne⟩ := st; ⟨⟨old, k e (by simp) _ he⟩, hi.at fun o q => k it (by simp) o q, hne⟩
  item := by
    intro X hP hw hK hc i pins s σ H E I hf st hg
    subst hP hw hK
    obtain ⟨⟨old, he⟩, hit, hne⟩ := st
    obtain ⟨xs, x, hq, hx⟩ := hg
    obtain ⟨its, rv, p, hz⟩ := I.tuple hq
    obtain ⟨u, hu, ru⟩ := rv.get hx
    have hel : e < s.heap.objs.size := Heap.lt_size he
    have hil : it < s.heap.objs.size := by obtain ⟨_, q, _⟩ := hit; exact Heap.lt_size q
    refine EnT.next_item he hit p (x := u) (by simpa using hu) hne fun h' ho hit' hT hk => ?_
    refine ⟨_, rfl, wpAny_letOwnedTupleGo_enum (s := { s with heap := h', toks := s.toks + 1 }) ho fun h2 he2 sb => ?_⟩
    have hT2 : h2.get? s.heap.objs.size = some { cls := .type "tuple", data := .seq #[.int i s.toks, u] } := (sb.2 _ (Nat.ne_of_gt hel)).trans hT
    have I1 : Inv X pins σ (upd H s.heap.objs.size (.tup [.int (i : Nat), x])) { s with heap := h2, toks := s.toks + 1 } :=
      I.turnedNew (ch := [e, it]) (fun b ob hb q => (sb.2 b (fun z => hb (by simp [z]))).trans (hk b ob (fun z => hb (by simp [z])) (fun z => hb (by simp [z])) q)) hf (Nat.le_refl _)
        ⟨by show 2 ≤ sizeLine; decide, [.int i s.toks, u], .cons ⟨_, rfl⟩ (.cons ru .nil), ⟨_, hT2, rfl, _, rfl⟩⟩
    refine ⟨.ref s.heap.objs.size, _, I1, rfl, ⟨_, x, rfl, I.hok.fresh (Nat.le_refl _), rfl, fun ys hy => by rw [I.tuple_inj hy hq]; exact hx⟩, ⟨⟨u, ?_⟩, hit'.at fun o q => (sb.2 it (Ne.symm hne)).trans q, hne⟩, fun b hb => ?_⟩
    · rw [show ((i + 1 : Nat) : Int) = (i : Int) + 1 by omega]
      exact he2
    · have hb' : b < s.heap.objs.size := by
        rcases (show b = e ∨ b = it by simpa using hb) with z | z
        · rw [z]; exact hel
        · rw [z]; exact hil
      rw [upd_ne (Nat.ne_of_lt hb')]
      exact (hf b hb).1
  done := by
    intro X hP hw hK hc i pins s σ H E I hf st hg
    subst hP hw hK
    obtain ⟨⟨old, he⟩, hit, hne⟩ := st
    obtain ⟨xs, hq, hx⟩ := hg
    obtain ⟨its, rv, p, hz⟩ := I.tuple hq
    obtain ⟨f0, f1, f2, f3, f4, f5⟩ := hf it (by simp)
    have hl := rv.length
    exact EnT.next_end (I.ok.hd hc) he hit p (by simp; omega) fun h' eb => ⟨rfl, I.turned (t' := s.toks) (fun b o hb q => eb b o hb q) f0 f1 f3 f4 f5⟩
  self := fun A i s Q E st h => let ⟨⟨_, he⟩, _⟩ := st; wpAny_pyIter_enum he h
def iEnumT (K : PySem.W.Frag) (ta : TA) : TI := fun σ H R => ta σ H fun vs H1 => ∃ a xs, vs = [.ref a] ∧ SqT K H1 a xs ∧ R (IteT K a) H1
theorem pi_enumT {X : Cx} {e : Expr} {ta : TA} {p pos tpos : Pos} {elts : List Expr} {kk : Nat} (hg : Gl X "enumerate") (hm : X.mg "enumerate" = none) (ha : PA X [e] ta) (hs : starEach [e] X.env = [(false, eval e X.env)] := by rfl) :
    PI X (.Tuple elts kk tpos) (.Call (.Name "enumerate" p) [e] [] pos) (iEnumT X.K ta) := by
  refine ⟨fun pins s σ H R I h => ?_⟩
  refine Call_ (ld_blt I hg hm boot_enumerate (PyProof.Rows.callWith_type1 (thn (ha.run pos pins s σ H _ I h) fun us s1 ⟨vs, H1, I1, r1, a, xs, ex, hq, q⟩ => ?_) hs rfl))
  subst ex
  obtain ⟨u, rfl, ru⟩ := vals1 r1
  cases ru
  obtain ⟨its, rv, p', hz⟩ := I1.tuple hq
  refine EnT.call_enum p' fun h' he hit hk => wpAny_pyIter_enum he ?_
  refine ⟨s1.heap.objs.size + 1, [s1.heap.objs.size + 1, s1.heap.objs.size], _, _, H1, rfl, I1.kept (t' := s1.toks) hk, turn_enumT a (s1.heap.objs.size + 1) s1.heap.objs.size, ⟨⟨.none, he⟩, hit, Nat.succ_ne_self _⟩, fun b hb => ?_, q⟩
  have hle : s1.heap.objs.size ≤ b := by
    rcases (show b = s1.heap.objs.size + 1 ∨ b = s1.heap.objs.size by simpa using hb) with z | z
    · rw [z]; exact Nat.le_add_right _ _
    · rw [z]; exact Nat.le_refl _
  exact I1.fpOk hle (I1.hok.fresh hle)
/-- for the loop over such pairs: the turn -/
theorem for_enumA {xs : List V} {J : It} {g : TG} {tb : TS} {D : Ends} {σ : St} {H : Hp} (S : Hp → Prop) (hgo : ∀ i H, S H → i < xs.length → J.go i H) (hst : ∀ H, S H → J.stop xs.length H)
    (hy : ∀ i H y H', S H → J.yld i H y H' → ∃ T x, y = V.ref T ∧ H T = none ∧ H' = upd H T (.tup [.int (i : Nat), x]) ∧ xs[i]? = some x)
    (Pv : Nat → St → Hp → Prop) (h0 : Pv 0 σ H) (hl : ∀ i σ H, i ≤ xs.length → Pv i σ H → S H)
    (hs : ∀ i x T σ H, xs[i]? = some x → Pv i σ H → H T = none → g (.ref T) σ (upd H T (.tup [.int (i : Nat), x])) fun σ2 H2 => tb { D with nx := Pv (i + 1), ct := Pv (i + 1), bk := D.nx } σ2 H2) (hd : ∀ σ H, Pv xs.length σ H → D.nx σ H) :
    ∃ W : Nat → Nat → St → Hp → Prop, (∃ m, W 0 m σ H) ∧ ∀ i m σ H, W i m σ H →
      (J.stop i H ∧ D.nx σ H) ∨ (J.go i H ∧ ∃ N : St → Hp → Prop, (∀ σ' H', N σ' H' → ∃ m', m' < m ∧ W (i + 1) m' σ' H') ∧ ∀ x H', J.yld i H x H' → g x σ H' fun σ2 H2 => tb { D with nx := N, ct := N, bk := D.nx } σ2 H2) := by
  refine ⟨fun i m σ H => m = xs.length - i ∧ i ≤ xs.length ∧ Pv i σ H, ⟨xs.length, by simp, Nat.zero_le _, h0⟩, ?_⟩
  rintro i m σ H ⟨rfl, hi, p⟩
  have st := hl i σ H hi p
  by_cases hlt : i < xs.length
  · refine .inr ⟨hgo i H st hlt, Pv (i + 1), fun σ' H' q => ⟨xs.length - (i + 1), by omega, rfl, by omega, q⟩, fun y H' h => ?_⟩
    obtain ⟨T, x, rfl, hT, rfl, hx⟩ := hy i H y H' st h
    exact hs i x T σ H hx p hT
  · have e : i = xs.length := by omega
    subst e
    exact .inl ⟨hst H st, hd σ H p⟩
section
variable {K : PySem.W.Frag} {a : Addr} {xs : List V} {g : TG} {tb : TS} {D : Ends} {σ : St} {H : Hp} (Pv : Nat → St → Hp → Prop) (h0 : Pv 0 σ H)
  (hs : ∀ i x T σ H, xs[i]? = some x → Pv i σ H → H T = none → g (.ref T) σ (upd H T (.tup [.int (i : Nat), x])) fun σ2 H2 => tb { D with nx := Pv (i + 1), ct := Pv (i + 1), bk := D.nx } σ2 H2) (hd : ∀ σ H, Pv xs.length σ H → D.nx σ H)
include h0 hs hd
theorem for_enumL (hl : ∀ i σ H, i ≤ xs.length → Pv i σ H → SqL K H a xs) : ∃ W : Nat → Nat → St → Hp → Prop, (∃ m, W 0 m σ H) ∧ ∀ i m σ H, W i m σ H →
      ((Ite K a).stop i H ∧ D.nx σ H) ∨ ((Ite K a).go i H ∧ ∃ N : St → Hp → Prop, (∀ σ' H', N σ' H' → ∃ m', m' < m ∧ W (i + 1) m' σ' H') ∧ ∀ x H', (Ite K a).yld i H x H' → g x σ H' fun σ2 H2 => tb { D with nx := N, ct := N, bk := D.nx } σ2 H2) :=
  for_enumA (J := Ite K a) (fun H => SqL K H a xs) (fun i H h hi => ⟨xs, _, h, List.getElem?_eq_getElem hi⟩) (fun H h => ⟨xs, h, Nat.le_refl _⟩) (fun i H y H' h ⟨T, x, e, hT, e2, q⟩ => ⟨T, x, e, hT, e2, q xs h⟩) Pv h0 hl hs hd
theorem for_enumT (hl : ∀ i σ H, i ≤ xs.length → Pv i σ H → SqT K H a xs) : ∃ W : Nat → Nat → St → Hp → Prop, (∃ m, W 0 m σ H) ∧ ∀ i m σ H, W i m σ H →
      ((IteT K a).stop i H ∧ D.nx σ H) ∨ ((IteT K a).go i H ∧ ∃ N : St → Hp → Prop, (∀ σ' H', N σ' H' → ∃ m', m' < m ∧ W (i + 1) m' σ' H') ∧ ∀ x H', (IteT K a).yld i H x H' → g x σ H' fun σ2 H2 => tb { D with nx := N, ct := N, bk := D.nx } σ2 H2) :=
  for_enumA (J := IteT K a) (fun H => SqT K H a xs) (fun i H h hi => ⟨xs, _, h, List.getElem?_eq_getElem hi⟩) (fun H h => ⟨xs, h, Nat.le_refl _⟩) (fun i H y H' h ⟨T, x, e, hT, e2, q⟩ => ⟨T, x, e, hT, e2, q xs h⟩) Pv h0 hl hs hd
end
end L2

-- part: TS1
/-! sorted(xs): tuples of ints, of any lengths, any number of them -/
namespace TI
open PySem PySem.Spec PySem.Calls PyProof.Rows SrtO PySem.W
section
variable {prog : Program} {w : World} {A : Around} {E : Value → Shared → Prop} {s : Shared}
/-- v is a tuple of these numbers -/
def TupI (h : Heap) (v : Value) (k : List Int) : Prop := ∃ (a : Addr) (dd : Option Addr) (items : Array Value) (n : Nat) (sl : Array (Option Value)), v = .ref a ∧ h.get? a = some { cls := .type "tuple", dict := dd, data := .seq items n, slots := sl } ∧ IntsAre items.toList k
theorem TupI.keeps {h h' : Heap} {v : Value} {k : List Int} (x : TupI h v k) (q : ∀ b o, v = .ref b → h.get? b = some o → h'.get? b = some o) : TupI h' v k := by
  obtain ⟨a, dd, items, n, sl, e, g, i⟩ := x
  exact ⟨a, dd, items, n, sl, e, q _ _ e g, i⟩
theorem TupI.of {h : Heap} {a : Addr} {items : Array Value} {k : List Int} (t : IsTup h a items) (i : IntsAre items.toList k) : TupI h (.ref a) k := by
  obtain ⟨⟨cls, dd, data, sl⟩, ho, hc, n, hd⟩ := t
  simp only at hc hd
  subst hc hd
  exact ⟨a, dd, items, n, sl, rfl, ho, i⟩
theorem TupI.tup {h : Heap} {v : Value} {k : List Int} (x : TupI h v k) : ∃ (a : Addr) (items : Array Value), v = .ref a ∧ IsTup h a items ∧ IntsAre items.toList k := by
  obtain ⟨a, dd, items, n, sl, rfl, g, i⟩ := x
  exact ⟨a, items, rfl, ⟨_, g, rfl, n, rfl⟩, i⟩
theorem TupI.type {M : Model} {h : Heap} {v : Value} {k : List Int} (x : TupI h v k) : Looks M h (typeOf v) (.type "tuple") := by
  obtain ⟨a, dd, items, n, sl, rfl, g, i⟩ := x
  exact (Looks.ld g).andThen .now
/-- compared by tuple.__lt__ itself -/
theorem lt_one {v u : Value} {ns ms : List Int} {Q : Bool → Shared → Prop} (hu : A.units < cLine) (hv : TupI s.heap v ns) (hw : TupI s.heap u ms) (h : Q (HT.lexLt ns ms) s) : wpAny (model prog w) A (oneLt' true v u) Q E s := by
  obtain ⟨a, dd, items, n, sl, rfl, ga, ia⟩ := hv
  obtain ⟨b, dd2, items2, n2, sl2, rfl, gb, ib⟩ := hw
  rw [oneLt'_eq]
  simp only [if_true]
  refine wpAny_bind (wpAny_cRoomFor hu ?_)
  refine wpAny_bind (wpAny_callSpecialIfBound?_slot (T := "tuple") ⟨_, ga, rfl⟩ PySem.F.slot_tuple_lt (call_meets PySem.F.slot_tuple_lt ⟨_, ga, rfl⟩ PySem.F.entry_tuple_lt (PySem.F.args_tuple_lt_2 _ _) (HT.tuple_lt_ints a b items items2 n n2 dd dd2 sl sl2 ns ms ia ib) ⟨ga, gb, ?_⟩))
  exact wpAny_truthy_bool h
theorem lt_gen {v u : Value} {ns ms : List Int} {Q : Bool → Shared → Prop} (hu : A.units < cLine) (hv : TupI s.heap v ns) (hw : TupI s.heap u ms) (h : Q (HT.lexLt ns ms) s) : wpAny (model prog w) A (oneLt' false v u) Q E s := by
  obtain ⟨a, items, rfl, ta, ia⟩ := hv.tup
  obtain ⟨b, items2, rfl, tb, ib⟩ := hw.tup
  exact kat_one _ _ (HT.lt_tupInts ta tb ia ib hu h)
theorem kat_lex {fin : Bool} {Q : Bool → Shared → Prop} {m n : Nat} (hf : fin = decide (m < n)) : ∀ {vs us : List Value} {ns ms : List Int} (i : Nat), IntsAre vs ns → IntsAre us ms → ns.length + n = ms.length + m → Q (HT.lexLt ns ms) s → KatLex prog w A true fin Q (vs.zip us) i s
  | _, _, _, _, i, .nil, .nil, hl, q => by
    have : fin = false := by rw [hf]; exact decide_eq_false (by simp at hl; omega)
    refine kat_nil ?_
    rw [this]
    exact q
  | _, _, _, _, i, .nil, .cons b u hb, hl, q => by
    have : fin = true := by rw [hf]; exact decide_eq_true (by simp at hl; omega)
    refine kat_nil ?_
    rw [this]
    exact q
  | _, _, _, _, i, .cons a t ha, .nil, hl, q => by
    have : fin = false := by rw [hf]; exact decide_eq_false (by simp at hl; omega)
    refine kat_nil ?_
    rw [this]
    exact q
  | _, _, _, _, i, .cons a t ha, .cons b u hb, hl, q => by
    rw [List.zip_cons_cons]
    rw [HT.lexLt_cons] at q
    refine kat_cons (SeqAt.EqAt.int_int a t b u prog w _ _ ?_)
    refine kat_go (fun e => ?_) (fun e => ?_)
    · have ex : a = b := by simpa using e
      rw [if_pos ex] at q
      exact kat_yes (kat_lex hf (i + 1) ha hb (by simp only [List.length_cons] at hl; omega) q)
    · have ex : ¬ a = b := by simpa using e
      rw [if_neg ex] at q
      exact kat_no (TS.oneLt_ints _ q)
theorem lt_tup {v u : Value} {ns ms : List Int} {Q : Bool → Shared → Prop} (hv : TupI s.heap v ns) (hw : TupI s.heap u ms) (h : Q (HT.lexLt ns ms) s) : wpAny (model prog w) A (keyLt' (tuples' true) v u) Q E s := by
  obtain ⟨a, dd, items, n, sl, rfl, ga, ia⟩ := hv
  obtain ⟨b, dd2, items2, n2, sl2, rfl, gb, ib⟩ := hw
  refine kat_lt ga rfl gb rfl ?_
  have z1 : items.size = ns.length := by rw [← ia.length]; simp
  have z2 : items2.size = ms.length := by rw [← ib.length]; simp
  exact kat_lex (m := items.size) (n := items2.size) rfl 0 ia ib (by omega) h
/-- what stands first in each -/
theorem firsts {M : Model} {k : Value → List Int} : ∀ (vs : List Value) {Q : List (Option Value) → Shared → Prop}, (∀ v ∈ vs, TupI s.heap v (k v)) → (∀ fs : List (Option Value), (fs.map fun f => f.isSome) = (vs.map fun v => !(k v).isEmpty) → (∀ f ∈ fs, ∀ x, f = some x → ∃ i t, x = Value.int i t) → Q fs s) → wpAny M A (vs.mapM firstOfTuple') Q E s
  | [], _, _, h => by rw [List.mapM_nil]; exact wpAny_pure (h [] rfl fun _ z => nomatch z)
  | v :: vs, Q, t, h => by
    have tv := t v List.mem_cons_self
    obtain ⟨a, dd, items, n, sl, ev, g, ia⟩ := tv
    rw [List.mapM_cons]
    refine wpAny_bind ?_
    rw [kas_first_eq]
    subst ev
    refine wpAny_bind (Looks.here (show Looks M s.heap (typeOf (.ref a)) (.type "tuple") from (Looks.ld g).andThen .now) ?_)
    rw [if_neg (by first | decide | simp)]
    refine wpAny_bind (listItems_at g rfl (wpAny_pure ?_))
    refine wpAny_bind (firsts vs (fun u hu => t u (List.mem_cons_of_mem _ hu)) fun fs hl hf => wpAny_pure (h _ ?_ fun f hm x e => ?_))
    · rw [List.map_cons, List.map_cons, hl]
      congr 1
      have e0 : items[0]? = items.toList[0]? := by simp
      rw [e0]
      generalize k (.ref a) = kk at ia
      cases hi : items.toList with
      | nil =>
        rw [hi] at ia
        cases ia
        rfl
      | cons y r =>
        rw [hi] at ia
        cases ia
        rfl
    · rcases List.mem_cons.mp hm with rfl | hm
      · have e2 : items.toList[0]? = some x := by simpa using e
        generalize k (.ref a) = kk at ia
        cases hi : items.toList with
        | nil => rw [hi] at e2; cases e2
        | cons y r =>
          rw [hi] at e2 ia
          cases e2
          cases ia with
          | cons i t _ => exact ⟨_, _, rfl⟩
      · exact hf f hm x e
/-- by what such tuples are compared -/
def kd (vs : List Value) (k : Value → List Int) : SortKind := if (vs.all fun v => !(k v).isEmpty) = true then tuples' true else if ((vs[0]?.map fun v => !(k v).isEmpty).getD false) = true then general' else oneType'
theorem kind_of {vs : List Value} {k : Value → List Int} (h1 : vs ≠ []) (ht : ∀ v ∈ vs, TupI s.heap v (k v)) {Q : SortKind → Shared → Prop} (q : Q (kd vs k) s) : wpAny (model prog w) A (keyKind' vs.toArray) Q E s := by
  rw [kat_kind_eq, List.mapM_toArray, map_eq_pure_bind]
  refine wpAny_bind (wpAny_bind (firsts vs ht fun fs hl hf => wpAny_pure ?_))
  have hal : (fs.toArray.all fun x => x.isSome) = (vs.all fun v => !(k v).isEmpty) := by
    have : (fs.map fun f => f.isSome).all id = (vs.map fun v => !(k v).isEmpty).all id := by rw [hl]
    rw [List.all_map, List.all_map] at this
    simpa using this
  have hlen : fs.length = vs.length := by
    have := congrArg List.length hl
    rw [List.length_map, List.length_map] at this
    exact this
  have h0' : (fs.toArray[0]?.bind id).isSome = ((vs[0]?.map fun v => !(k v).isEmpty).getD false) := by
    cases fs with
    | nil =>
      cases vs with
      | nil => rfl
      | cons v vs => cases hl
    | cons f fs =>
      cases vs with
      | nil => cases hl
      | cons v vs =>
        have := (List.cons.inj hl).1
        simp only [List.getElem?_toArray, List.getElem?_cons_zero, Option.map_some, Option.getD_some, Option.bind_some, id_eq]
        exact this
  unfold kd at q
  by_cases hall : (fs.toArray.all fun x => x.isSome) = true
  · rw [if_pos hall]
    rw [hal] at hall
    rw [if_pos hall] at q
    refine wpAny_bind (wpAny_rule ?_)
    have hfm : (fs.toArray.filterMap id) = (fs.filterMap id).toArray := by simp
    rw [hfm, oneTypeOnly'_eq, List.mapM_toArray, map_eq_pure_bind]
    have hints : ∀ x ∈ fs.filterMap id, ∃ i t, x = Value.int i t := fun x hx => by
      obtain ⟨f, hm, e⟩ := List.mem_filterMap.mp hx
      exact hf f hm x e
    refine wpAny_bind (wpAny_bind (wpAny_bind (kas_mapM (r := .type "int") _ (fun v hv Q' hq => ?_) (wpAny_pure ?_))))
    · obtain ⟨i, t, rfl⟩ := hints v hv
      exact (show Looks (model prog w) s.heap (typeOf (.int i t)) (.type "int") from Looks.now).here hq
    · have hne : fs.filterMap id ≠ [] := by
        cases fs with
        | nil => rw [List.length_nil] at hlen; exact absurd (List.eq_nil_of_length_eq_zero hlen.symm) h1
        | cons f r =>
          cases f with
          | none =>
            rw [← hal] at hall
            simp at hall
          | some x => simp
      obtain ⟨f₁, fr, ef⟩ := List.exists_cons_of_ne_nil hne
      rw [ef]
      have hall2 : ((List.map (fun _ => Value.type "int") (f₁ :: fr)).toArray.all fun x => x == Value.type "int") = true := by
        simp only [List.all_toArray, List.all_map, List.all_eq_true]
        intro _ _
        rfl
      have h0 : (List.map (fun _ => Value.type "int") (f₁ :: fr)).toArray[0]? = some (Value.type "int") := by simp
      rw [h0]
      simp only [hall2, if_true]
      exact wpAny_pure (wpAny_pure q)
  · rw [if_neg hall]
    rw [hal] at hall
    rw [if_neg hall] at q
    by_cases h0 : (fs.toArray[0]?.bind id).isSome = true
    · rw [if_pos h0]
      rw [h0'] at h0
      rw [if_pos h0] at q
      exact wpAny_pure q
    · rw [if_neg h0]
      rw [h0'] at h0
      rw [if_neg h0] at q
      rw [oneTypeOnly'_eq, List.mapM_toArray, map_eq_pure_bind]
      refine wpAny_bind (wpAny_bind (wpAny_bind (kas_mapM (r := .type "tuple") _ (fun v hv Q' hq => ?_) (wpAny_pure ?_))))
      · exact Looks.here (ht v hv).type hq
      · obtain ⟨v₁, vr, ev⟩ := List.exists_cons_of_ne_nil h1
        rw [ev]
        have hall2 : ((List.map (fun _ => Value.type "tuple") (v₁ :: vr)).toArray.all fun x => x == Value.type "tuple") = true := by
          simp only [List.all_toArray, List.all_map, List.all_eq_true]
          intro _ _
          rfl
        have h0 : (List.map (fun _ => Value.type "tuple") (v₁ :: vr)).toArray[0]? = some (Value.type "tuple") := by simp
        rw [h0]
        simp only [hall2, if_true]
        exact wpAny_pure (wpAny_pure q)
theorem cmp_of {vs : List Value} {k : Value → List Int} (hu : A.units < cLine) (hv : ∀ v ∈ vs, TupI s.heap v (k v)) {κ : SortKind} (hκ : κ = tuples' true ∨ κ = general' ∨ κ = oneType') : Cmp prog w A s κ (fun p => p.1 ∈ vs) (lt2 fun v u => HT.lexLt (k v) (k u)) := by
  intro p q hp hq
  rcases hκ with rfl | rfl | rfl
  · exact lt_tup (Q := fun r s' => s' = s ∧ r = HT.lexLt (k p.1) (k q.1)) (E := fun _ _ => False) (hv p.1 hp) (hv q.1 hq) ⟨rfl, rfl⟩
  · exact lt_gen (Q := fun r s' => s' = s ∧ r = HT.lexLt (k p.1) (k q.1)) (E := fun _ _ => False) hu (hv p.1 hp) (hv q.1 hq) ⟨rfl, rfl⟩
  · exact lt_one (Q := fun r s' => s' = s ∧ r = HT.lexLt (k p.1) (k q.1)) (E := fun _ _ => False) hu (hv p.1 hp) (hv q.1 hq) ⟨rfl, rfl⟩
theorem sortable {a : Addr} {vs : List Value} {k : Value → List Int} (h2 : 2 ≤ vs.length) (hu : A.units < cLine) (hv : ∀ v ∈ vs, TupI s.heap v (k v)) (ha : ∀ v ∈ vs, v ≠ .ref a) : SortableO prog w A s a vs fun v u => HT.lexLt (k v) (k u) := by
  intro h' keep
  have hv' : ∀ v ∈ vs, TupI h' v (k v) := fun v hm => (hv v hm).keeps fun b o e g => keep b o (fun z => ha v hm (by rw [e, z])) g
  refine ⟨kd vs k, fun Q E hq => ?_, cmp_of (s := { s with heap := h' }) hu hv' ?_⟩
  · exact kind_of (s := { s with heap := h' }) (fun e => by rw [e] at h2; cases h2) hv' hq
  · unfold kd
    split
    · exact .inl rfl
    · split
      · exact .inr (.inl rfl)
      · exact .inr (.inr rfl)
end
end TI
namespace L2
open PySem PySem.Spec PyProof.Rows
/-- tuples of numbers at places -/
def TsAt (H : Hp) (bs : List Addr) (cs : List (List Int)) : Prop := Paired (fun (b : Addr) (c : List Int) => H b = some (.tup (c.map V.int))) bs cs
end L2

-- part: TS2
/-! sorted(d) of a dict with tuples of numbers as keys; sorted(xs) of a list of such tuples -/
namespace Toy
open PySem PySem.Spec PyProof.Rows L2
def intV : V → Int
  | .int i => i
  | _ => 0
/-- the numbers of the tuple at b -/
def ctOf (H : Hp) (b : Addr) : List Int := match H b with
  | some (.tup xs) => xs.map intV
  | _ => []
theorem ctOf_eq {H : Hp} {b : Addr} {c : List Int} (h : H b = some (.tup (c.map V.int))) : ctOf H b = c := by
  unfold ctOf
  rw [h]
  show (c.map V.int).map intV = c
  rw [List.map_map]
  exact (List.map_congr_left fun _ _ => rfl).trans (List.map_id c)
theorem TupsAt.ct {H : Hp} : ∀ {bs : List Addr} {cs : List (List Int)}, TupsAt H bs cs → bs.map (ctOf H) = cs
  | _, _, .nil => rfl
  | _, _, .cons h t => by rw [List.map_cons, ctOf_eq h, TupsAt.ct t]
theorem TupsAt.mem {H : Hp} : ∀ {bs : List Addr} {cs : List (List Int)}, TupsAt H bs cs → ∀ b ∈ bs, H b = some (.tup ((ctOf H b).map V.int))
  | _, _, .cons h t, b, hb => by
    rcases List.mem_cons.mp hb with rfl | hb
    · rw [ctOf_eq h]
      exact h
    · exact TupsAt.mem t b hb
theorem TupsAt.of_mem {H : Hp} : ∀ {bs : List Addr}, (∀ b ∈ bs, H b = some (.tup ((ctOf H b).map V.int))) → TupsAt H bs (bs.map (ctOf H))
  | [], _ => .nil
  | b :: bs, h => .cons (h b List.mem_cons_self) (TupsAt.of_mem fun x hx => h x (List.mem_cons_of_mem _ hx))
section
variable {X : Cx} {pins : List (Addr × Obj)} {σ : L2.St} {H : Hp} {s : Shared}
theorem tupI_of (I : Inv X pins σ H s) {b : Addr} {c : List Int} (h : H b = some (.tup (c.map V.int))) : TI.TupI s.heap (.ref b) c := by
  obtain ⟨_, its, r, t⟩ := (show ObjOk X.prog X.w H s.heap b (.tup (c.map V.int)) from I.hok b _ h)
  exact TI.TupI.of t (by simpa using intsAre_of r)
/-- what sorting gives, told by places -/
def SrtTo (H : Hp) (bs : List Addr) (Q : VK) : Prop := ∀ (bs' : List Addr) (p : Addr), bs'.Perm bs → bs'.Pairwise (fun x y => HT.lexLt (ctOf H y) (ctOf H x) = false) → H p = none → Q (.ref p) (upd H p (.lst (bs'.map V.ref)))
theorem out_refs {bs : List Addr} {out : List Value} {lt : Value → Value → Bool} (h2 : SrtO.Stb lt out (bs.map Value.ref)) : out = (out.map adO).map Value.ref ∧ (out.map adO).Perm bs := by
  refine ⟨ref_map fun u hm => ?_, ?_⟩
  · obtain ⟨t, _, e⟩ := List.mem_map.mp (h2.perm.mem_iff.mp hm)
    exact ⟨t, e.symm⟩
  · have p1 := h2.perm.map adO
    rw [ad_map] at p1
    exact p1
theorem cr_sortedTL (hu : X.A.units + 64 < cLine) : CallR X (.builtin "sorted") (fun vs H Q => ∃ (a : Addr) (bs : List Addr) (cs : List (List Int)), vs = [.ref a] ∧ SqL X.K H a (bs.map V.ref) ∧ TupsAt H bs cs ∧ SrtTo H bs Q) := by
  intro pins s σ H vs us Q I r h
  obtain ⟨a, bs, cs, rfl, hs, ts, q⟩ := h
  obtain ⟨its, rv, hl, hz⟩ := I.list hs
  rw [Vals.ref1 r]
  have ei := nts_of rv
  subst ei
  rw [List.length_map] at hz
  have hm := TupsAt.mem ts
  have hna : ∀ b ∈ bs, b < s.heap.objs.size := fun b hb => by
    obtain ⟨_, _, _, o, ho, _⟩ := (show ObjOk X.prog X.w H s.heap b (.tup ((ctOf H b).map V.int)) from I.hok b _ (hm b hb))
    exact Heap.lt_size ho
  refine SrtO.sorted_ord (NtL.swo_lexL fun u => ctOf H (adO u)) hl.isList (by rw [List.length_map]; exact hz) (fun h2 h₁ a' g1 g2 => TI.sortable (s := { s with heap := h₁ }) h2 (by show X.A.units + 1 + 1 < cLine; omega) (fun v hv => ?_) fun v hv => ?_) fun out h1 h2 => ?_
  · obtain ⟨b, hb, rfl⟩ := List.mem_map.mp hv
    exact (tupI_of I (hm b hb)).keeps fun c o _ e => (g2 c o e).2
  · obtain ⟨b, hb, rfl⟩ := List.mem_map.mp hv
    intro e
    obtain ⟨_, _, _, o, ho, _⟩ := (show ObjOk X.prog X.w H s.heap b (.tup ((ctOf H b).map V.int)) from I.hok b _ (hm b hb))
    exact (g2 b o ho).1 (Value.ref.inj e)
  · obtain ⟨eo, hp⟩ := out_refs h2
    obtain ⟨ep, he'⟩ := PyProof.Rows.sortedAll_at s.heap (bs.map Value.ref) out.toArray
    have hlen : ((out.map adO).map V.ref).length ≤ sizeLine := by
      rw [List.length_map, hp.length_eq]
      exact hz
    have rvo : Vals ((out.map adO).map V.ref) out := by
      have z := of_nts (out.map adO)
      rw [← eo] at z
      exact z
    exact ⟨.ref _, upd H (s.heap.objs.size + 1) (.lst ((out.map adO).map V.ref)), I.laid (t' := s.toks) (fun _ _ => PyProof.Rows.sortedAll_old) (Nat.le_succ _) ⟨hlen, out, ep, rvo, he'⟩, rfl, q _ _ hp (List.pairwise_map.mpr (h1.imp fun {x y} z => z)) (I.hok.fresh (Nat.le_succ _))⟩
theorem cr_sortedTD (hcalm : X.calm = true) (hu : X.A.units + 64 < cLine) : CallR X (.builtin "sorted") (fun vs H Q => ∃ (d : Addr) (kvs : List (List Key × V)) (cs : List (List Int)), vs = [.ref d] ∧ Rd H d (.dT kvs) ∧ kvs.map (·.1) = cs.map tkey ∧ ∀ bs, TupsAt H bs cs → SrtTo H bs Q) := by
  intro pins s σ H vs us Q I r h
  obtain ⟨d, kvs, cs, rfl, hd, hk, q⟩ := h
  obtain ⟨u, rfl, rx⟩ := vals1 r
  cases rx
  obtain ⟨z, hs, ks, pr, o, es, ep, ho, hx, hdt, he, hn⟩ := (show ObjOk X.prog X.w H s.heap d (.dT kvs) from hd.ok I.hok)
  have l1 : es.size = ks.length := size_of_entries he
  have l2 : kvs.length = ks.length := Paired.length pr
  have ts : TupsAt H (ks.map fun x => x.2.1) cs := tups_of_keys (isKeys_of pr) hk
  refine Calls.call_function_entry PyProof.Rows.kind_sorted PyProof.Rows.plain_sorted PyProof.Rows.entry_sorted (PyProof.Rows.args_sorted1 _) ?_
  unfold Builtin.«sorted»
  refine wpAny_bind (m := checkCount "sorted" 1 1 _) (wpAny_pure ?_)
  refine wpAny_bind (PySem.W.kdu_collect (A := X.A.in1) (kdl_raw hs hx hdt) (I.ok.hd hcalm) ho (by omega) fun h' tk acc' kp it => ?_)
  have ea : acc'.toList = ks.map fun x => Value.ref x.2.1 := by
    have hl : acc'.toList.length = ks.length := by rw [Array.length_toList, it.1]; exact l1
    apply List.ext_getElem?
    intro j
    rw [List.getElem?_map]
    cases hj : acc'.toList[j]? with
    | none =>
      have h1 := List.getElem?_eq_none_iff.mp hj
      rw [List.getElem?_eq_none (by omega)]
      all_goals rfl
    | some v =>
      obtain ⟨en, hen, hv⟩ := it.2 j v (by rw [← Array.getElem?_toList]; exact hj)
      have qe := entry_at he j
      rw [hen] at qe
      cases hb : ks[j]? with
      | none =>
        rw [hb] at qe
        exact nomatch (show some en = none from qe)
      | some b =>
        rw [hb] at qe
        have e2 : en = entryOfKey (tupleKind (mixKind X.prog X.w)) b := Option.some.inj qe
        rw [hv, e2]
        all_goals rfl
  have eb : acc'.toList = (ks.map fun x => x.2.1).map Value.ref := by rw [ea, List.map_map]; all_goals rfl
  generalize (ks.map fun x => x.2.1) = bs at *
  have I1 : Inv X pins σ H { s with heap := h', toks := tk } := I.kept kp
  have hlb : bs.length ≤ sizeLine := by
    have := congrArg List.length eb
    rw [Array.length_toList, List.length_map, it.1] at this
    omega
  rw [eb]
  refine wpAny_bind (wpAny_newList ?_ (by rw [List.length_map]; exact hlb))
  have hoL : (h'.push (seqObj "list" (bs.map Value.ref).toArray 0)).get? h'.objs.size = some (seqObj "list" (bs.map Value.ref).toArray 0) := Heap.get?_push_size _ rfl
  show wpAny _ _ _ _ _ { s with heap := h'.push (seqObj "list" (bs.map Value.ref).toArray 0), toks := tk }
  have hm := TupsAt.mem ts
  refine wpAny_bind (wpAny_holding (wpAny_call_entry PyProof.Rows.slot_list_sort ⟨_, hoL, rfl⟩ PyProof.Rows.entry_list_sort
    (SrtO.list_sort_ord (s := { s with heap := h'.push (seqObj "list" (bs.map Value.ref).toArray 0), toks := tk }) (NtL.swo_lexL fun u => ctOf H (adO u)) hoL (by rw [List.length_map]; exact hlb) (fun h2 => TI.sortable h2 (by show X.A.units + 1 + 1 < cLine; omega) (fun v hv => ?_) fun v hv => ?_) fun out h1 h2 => ⟨_, rfl, ?_⟩) (PyProof.Rows.args_list_sort _)))
  · obtain ⟨b, hb, rfl⟩ := List.mem_map.mp hv
    have tb : TI.TupI h' (.ref b) (ctOf H b) := tupI_of I1 (hm b hb)
    exact tb.keeps fun c o _ e => Heap.get?_push_of_some _ e
  · obtain ⟨b, hb, rfl⟩ := List.mem_map.mp hv
    intro e
    obtain ⟨_, _, _, o, ho, _⟩ := (show ObjOk X.prog X.w H h' b (.tup ((ctOf H b).map V.int)) from I1.hok b _ (hm b hb))
    exact Nat.ne_of_lt (Heap.lt_size ho) (Value.ref.inj e)
  · obtain ⟨eo, hp⟩ := out_refs h2
    obtain ⟨e', he'⟩ := PyProof.Rows.sortedHeap_at (vs := bs.map Value.ref) (out := out.toArray) hoL
    have hlen : ((out.map adO).map V.ref).length ≤ sizeLine := by
      rw [List.length_map, hp.length_eq]
      exact hlb
    have rvo : Vals ((out.map adO).map V.ref) out := by
      have z := of_nts (out.map adO)
      rw [← eo] at z
      exact z
    refine wpAny_pure ⟨_, rfl, .ref h'.objs.size, upd H h'.objs.size (.lst ((out.map adO).map V.ref)), I1.laid (t' := tk) (fun b u e => ?_) (Nat.le_refl _)
      (show ObjOk X.prog X.w _ _ _ (.lst ((out.map adO).map V.ref)) from ⟨hlen, out, e', rvo, he'⟩), rfl, q bs ts _ _ hp (List.pairwise_map.mpr (h1.imp fun {x y} z => z)) (I1.hok.fresh (Nat.le_refl _))⟩
    have hb : b < h'.objs.size := Heap.lt_size e
    rw [PyProof.Rows.sortedHeap_old (Nat.ne_of_lt hb) (by rw [size_push']; exact Nat.lt_succ_of_lt hb)]
    exact Heap.get?_push_of_some _ e
end
end Toy

-- part: KV1
namespace Toy
open PySem L2
/-! ### worth_table, _law_led_answer, is_worths -/
theorem hd_natZ {W : List Int} {j : Nat} : hd W (1 + (j : Int)) = decide (W.getD j 0 = 1) := by
  unfold hd
  rw [absI_pos (by omega), show (1 + (j : Int) - 1).toNat = j by omega, if_pos (by omega)]
/-! ### the table of an answer's worths -/
def wtLZ (W : List Int) : List Int := (0 :: W) ++ W.reverse.map fun x => 1 - x
def wvZ (W : List Int) (l : Int) : Int := if hd W l = true then 1 else 0
theorem wt_atZ {n : Nat} {W : List Int} (b : Bits n W) {l : Int} (h : Lt n l) : atI ((wtLZ W).map V.int) l = some (V.int (wvZ W l)) := by
  have ln := b.1
  have lt : (wtLZ W).length = 2 * n + 1 := by
    unfold wtLZ
    rw [List.length_append, List.length_cons, List.length_map, List.length_reverse, ln]
    omega
  obtain ⟨j, hj, e⟩ := h.two
  have hj' : j < W.length := by omega
  have bj := b.2 _ (List.getElem_mem hj')
  unfold atI
  rw [List.length_map, lt]
  rcases e with rfl | rfl
  · have ei : ixN (2 * n + 1) (1 + (j : Int)) = some (1 + j) := by
      unfold ixN
      rw [if_pos (by omega), if_pos (by omega)]
      exact congrArg some (by omega)
    rw [ei]
    show ((wtLZ W).map V.int)[1 + j]? = _
    rw [List.getElem?_map]
    unfold wvZ
    rw [hd_natZ, gD hj']
    unfold wtLZ
    rw [List.getElem?_append_left (by rw [List.length_cons]; omega), Nat.add_comm 1 j, List.getElem?_cons_succ, List.getElem?_eq_getElem hj']
    rcases bj with e | e <;> rw [e] <;> rfl
  · have ei : ixN (2 * n + 1) (-(1 + (j : Int))) = some (2 * n - j) := by
      unfold ixN
      rw [if_neg (by omega), if_pos (by omega)]
      exact congrArg some (by omega)
    rw [ei]
    show ((wtLZ W).map V.int)[2 * n - j]? = _
    rw [List.getElem?_map]
    unfold wvZ
    rw [hd_neg b (Lt.nat hj), hd_natZ, gD hj']
    unfold wtLZ
    have e2 : 2 * n - j - (0 :: W).length = n - 1 - j := by
      rw [List.length_cons, ln]
      omega
    rw [List.getElem?_append_right (by rw [List.length_cons]; omega), e2, List.getElem?_map, List.getElem?_reverse (by omega)]
    have e3 : W.length - 1 - (n - 1 - j) = j := by omega
    rw [e3, List.getElem?_eq_getElem hj']
    rcases bj with e | e <;> rw [e] <;> rfl
/-- what the table tells of the letters led back: where the answer is led -/
theorem wv_ledZ {n : Nat} {L B W : List Int} (t : Trn n L) (bk : Bk n L B) (bW : Bits n W) : B.map (wvZ W) = bitsOf n (imgs L W) := by
  refine List.ext_getElem (by rw [List.length_map, bk.len, bits_len]) fun j h1 h2 => ?_
  have hj : j < n := by rw [bits_len] at h2; exact h2
  have hB : j < B.length := by rw [bk.len]; exact hj
  rw [List.getElem_map]
  obtain ⟨g1, g2⟩ := bk.back t (Lt.nat hj)
  have e := hd_led t bW.1 bW.2 g1
  rw [g2, hd_natZ, gL_nat, gD hB, gD h2] at e
  unfold wvZ
  have b01 := bits_01 n (imgs L W) _ (List.getElem_mem h2)
  rw [← e]
  rcases b01 with h | h <;> rw [h] <;> rfl
section
variable {P : Program} {w : World} {K : PySem.W.Frag} {mg : Str → Option Value} {base : Heap} {C : Addr}
abbrev sWtZ : Stmt := s_worth_table
abbrev nWtZ : List Str := ["worths", "worth"]
theorem scWtZ : FnScope nWtZ ["worths"] (defScope sWtZ) := ⟨rfl, rfl, rfl, by decide +kernel, rfl, by decide +kernel, by decide +kernel⟩
def spWtZ (K : PySem.W.Frag) : Sp := fun vs H Q _ => ∃ (a : Addr) (W : List Int), vs = [.ref a] ∧ SqT K H a (W.map V.int) ∧ W ≠ [] ∧ W.length ≤ 400 ∧ ∀ (b : Addr) (H' : Hp), Same H H' → H' b = some (.tup ((wtLZ W).map V.int)) → Q (.ref b) H'
def tInv1Z : TE := tOp (rI0 fun i j => .int (i - j)) (tC (V.int 1)) (tVar 1)
theorem ok_wtZ {f : Addr} {fd : FuncData} (F : Fun K "worth_table" "worth_table" sWtZ f fd) (B : Bl mg) : FnOk P w K mg base CX0 1 f fd ["worths"] (spWtZ K) := by
  refine F.ok scWtZ (fun vs H Q E h => ?_) (fun cdv A outer s H vs Q E hr h => ?_)
  · obtain ⟨a, L, rfl, _⟩ := h
    rfl
  · obtain ⟨a, L, rfl, hs, ne, l4, q⟩ := h
    refine ⟨_, pss_one (ps_ret (pe_op op_catT (pe_op op_catT (pe_tup (pa_cons pe_int pa_nil)) (pv 0)) (pe_callTy call_tuple_of (by rfl) B.tuple (by decide +kernel) (pa_cons
        (pe_lc (own := [("worth", 1)]) (g := gName 1) (tt := tYes) (te := tInv1Z) rfl scWtZ.nd (pi_tup (pe_revT (pv 0))) (blkOk_by (own := [("worth", 1)]) (N := nWtZ) (sc := defScope sWtZ) (by decide +kernel))
          (fun _ _ _ _ _ => pg_name (i := 1) scWtZ.nd rfl (Or.inl rfl)) (fun _ _ _ _ _ => pts_nil) (fun _ _ _ _ _ => pe_op op_sub pe_int (pv 1))) pa_nil)))), ?_⟩
    show tRet _ _ [some (.ref a), none] H
    walk_at "rd"
    refine ⟨by show 1 ≤ sizeLine; decide, fun p hp => ?_⟩
    have s1 : Same H (upd H p (.tup [V.int 0])) := Same.new hp
    have hp' : upd H p (.tup [V.int 0]) p = some (.tup [V.int 0]) := upd_same
    generalize upd H p (.tup [V.int 0]) = H1 at *
    have eZ : sizeLine = 16777216 := rfl
    have lne : L.map V.int ≠ [] := fun e => ne (List.map_eq_nil_iff.mp e)
    refine ⟨p, a, _, _, rfl, rfl, SqT.of hp', Same.sqt s1 hs, by decide, by rw [List.length_map, List.length_singleton]; omega, fun e => absurd e lne, fun _ p2 hp2 => ?_⟩
    have s2 : Same H1 (upd H1 p2 (.tup ([V.int 0] ++ L.map V.int))) := Same.new hp2
    have hp2' : upd H1 p2 (.tup ([V.int 0] ++ L.map V.int)) p2 = some (.tup ([V.int 0] ++ L.map V.int)) := upd_same
    generalize upd H1 p2 (.tup ([V.int 0] ++ L.map V.int)) = H2 at *
    have s12 := Same.trans s1 s2
    refine ⟨_, rfl, a, _, rfl, Same.sqt s12 hs, fun p3 hp3 => ?_⟩
    rw [← List.map_reverse]
    have s3 : Same H2 (upd H2 p3 (.tup (L.reverse.map V.int))) := Same.new hp3
    have hp3' : upd H2 p3 (.tup (L.reverse.map V.int)) p3 = some (.tup (L.reverse.map V.int)) := upd_same
    generalize upd H2 p3 (.tup (L.reverse.map V.int)) = H3 at *
    refine ⟨p3, rfl, ⟨_, SqT.of hp3'⟩, fun D hD => lc_tup (K := K) (a := p3) (xs := L.reverse.map V.int) (fun j Hj => Same H3 Hj ∧ Hj D = some (.lst (((L.reverse.take j).map fun l => 1 - l).map V.int))) ⟨Same.new hD, upd_same⟩ (fun j Hj _ ⟨e, _⟩ => SqT.of (e _ _ hp3')) ?_ ?_⟩
    · rintro j x Hj hj ⟨ej, hDj⟩
      rw [List.getElem?_map] at hj
      cases ez : L.reverse[j]? with
      | none => rw [ez] at hj; cases hj
      | some z =>
      rw [ez] at hj
      cases hj
      have hjl : j < L.reverse.length := (List.getElem?_eq_some_iff.mp ez).1
      rw [List.length_reverse] at hjl
      refine ⟨rfl, yesT ?_⟩
      show tInv1Z [some (.ref a), some (.int z)] Hj _
      unfold tInv1Z
      walk_at "rd"
      refine ⟨_, hDj, by rw [List.length_map, List.length_map, List.length_take]; exact small1000 (by omega), fun c o hc => ?_, ?_⟩
      · rw [upd_ne (ne_of_none hc hD)]
        exact ej c o hc
      · rw [upd_same, List.take_add_one, ez]
        simp only [Option.toList_some, List.map_append, List.map_cons, List.map_nil]
    rintro H5 ⟨s5, hD5⟩
    rw [List.length_map, List.take_length] at hD5
    walk_at "rd"
    refine ⟨D, _, rfl, .inl ⟨SqL.of hD5, fun p4 hp4 => ?_⟩⟩
    have s6 : Same H5 (upd H5 p4 (.tup ((L.reverse.map fun l => 1 - l).map V.int))) := Same.new hp4
    have hp4' : upd H5 p4 (.tup ((L.reverse.map fun l => 1 - l).map V.int)) p4 = some (.tup ((L.reverse.map fun l => 1 - l).map V.int)) := upd_same
    generalize upd H5 p4 (.tup ((L.reverse.map fun l => 1 - l).map V.int)) = H6 at *
    have s26 := Same.trans s3 (Same.trans s5 s6)
    have rne : (L.reverse.map fun l => 1 - l).map V.int ≠ [] := fun e => ne (by simpa using e)
    refine ⟨p2, p4, _, _, rfl, rfl, SqT.of (s26 _ _ hp2'), SqT.of hp4', by simp, by simp only [List.length_append, List.length_map, List.length_reverse, List.length_singleton]; omega, fun e => absurd e rne, fun _ p5 hp5 => ?_⟩
    have e : [V.int 0] ++ L.map V.int ++ (L.reverse.map fun l => 1 - l).map V.int = (wtLZ L).map V.int := by
      unfold wtLZ
      rw [List.map_append, List.map_cons]
      rfl
    rw [e]
    exact q p5 _ (Same.trans s12 (Same.trans s26 (Same.new hp5))) upd_same
/-! ### where an answer is led -/
abbrev sLwZ : Stmt := s__law_led_answer
abbrev nLwZ : List Str := ["turn", "bits", "letters", "k", "one", "letter"]
theorem scLwZ : FnScope nLwZ ["turn", "bits"] (defScope sLwZ) := ⟨rfl, rfl, rfl, by decide +kernel, rfl, by decide +kernel, by decide +kernel⟩
def spLwZ (K : PySem.W.Frag) : Sp := fun vs H Q _ => ∃ (a b : Addr) (n : Nat) (L W : List Int), vs = [.ref a, .ref b] ∧ SqT K H a (L.map V.int) ∧ Trn n L ∧ 1 ≤ n ∧ n ≤ 400 ∧ SqT K H b (W.map V.int) ∧ W.length = n ∧ (∀ x ∈ W, x = 0 ∨ x = 1) ∧
  ∀ (c : Addr) (H' : Hp), Same H H' → H' c = some (.tup ((bitsOf n (imgs L W)).map V.int)) → Q (.ref c) H'
def tPickZ (K : PySem.W.Frag) : TE := tCall (spGoes K) [] E0 (tCons (tVar 0) (tCons (tOp (rIxL K) (tLst (tCons (tUn (rU fun i => .int (-i)) (tVar 3)) (tCons (tVar 3) tNil))) (tVar 4)) tNil))
def tPos1Z : TE := tCB (fun xs H Q => (∃ i, xs = [.int i] ∧ Q (.int i) H) ∨ ∃ k, xs = [.bl k] ∧ Q (.int (if k then 1 else 0)) H) (tCons (tOp (rI0 fun i j => .bl (decide (j < i))) (tVar 5) (tC (V.int 0))) tNil)
theorem ok_lwZ {f fG : Addr} {fd fdG : FuncData} (F : Fun K "_law_led_answer" "_law_led_answer" sLwZ f fd) (B : Bl mg) (G : Df K mg "_law_goes" sLGoes ["turn", "letter"] fG fdG) : FnOk P w K mg base CX0 2 f fd ["turn", "bits"] (spLwZ K) := by
  have GG : FnOk P w K mg base CX0 1 fG fdG ["turn", "letter"] (spGoes K) := ok_lgoes G.F
  refine F.ok scLwZ (fun vs H Q E h => ?_) (fun cdv A outer s H vs Q E hr h => ?_)
  · obtain ⟨a, b, n, L, W, rfl, _⟩ := h
    rfl
  · obtain ⟨a, b, n, L, W, rfl, hs, t, h1, h4, hb, lW, hW, q⟩ := h
    refine ⟨_, pss_cons (ps_setLc (i := 2) (own := [("k", 3), ("one", 4)]) (g := gTup K 2 (gCons (gName 3) (gCons (gName 4) gNil))) (tt := tYes) (te := tPickZ K) rfl scLwZ.nd rfl rfl (sw_true rfl rfl rfl (by decide +kernel)) (pi_enumC (by rfl) B.enumerate (pa_cons (pv 1) (pa_cons pe_int pa_nil)))
        (blkOk_by (own := [("k", 3), ("one", 4)]) (N := nLwZ) (sc := defScope sLwZ) (by decide +kernel)) (fun _ _ _ _ _ => pg_tup rfl (pgs_cons (pg_name (i := 3) scLwZ.nd rfl (Or.inl rfl)) (pgs_cons (pg_name (i := 4) scLwZ.nd rfl (Or.inl rfl)) pgs_nil))) (fun _ _ _ _ _ => pts_nil)
        (fun _ _ _ _ _ => pe_call GG hr rfl G.g G.F.kp G.b .nil pass0 (pa_cons (pv 0) (pa_cons (pe_ix ix_list (pe_lst (pa_cons (pe_un un_neg (pv 3)) (pa_cons (pv 3) pa_nil))) (pv 4) (fun _ _ => rfl)) pa_nil))))
      (pss_one (ps_ret (pe_callTy call_tuple_of (by rfl) B.tuple (by decide +kernel) (pa_cons (pe_lc (own := [("letter", 5)]) (g := gName 5) (tt := tYes) (te := tPos1Z) rfl scLwZ.nd
        (pi_list (pe_sorted (run_list (u100 hr) rel_abs fun a => PyProof.Rows.ksk_t4 "abs" a) (key_abs (by rfl) B.abs) (by rfl) B.sorted (pa_cons (pv 2) pa_nil))) (blkOk_by (own := [("letter", 5)]) (N := nLwZ) (sc := defScope sLwZ) (by decide +kernel))
        (fun _ _ _ _ _ => pg_name (i := 5) scLwZ.nd rfl (Or.inl rfl)) (fun _ _ _ _ _ => pts_nil) (fun _ _ _ _ _ => pe_callTy call_int1 (by rfl) B.int (by decide +kernel) (pa_cons (pe_cmpR op_gt (pv 5) pe_int (nomark _)) pa_nil))) pa_nil)))), ?_⟩
    show tSeq _ _ _ [some (.ref a), some (.ref b), none, none, none, none] H
    refine seq_gen (fun σ' H' => ∃ D, σ' = [some (.ref a), some (.ref b), some (.ref D), none, none, none] ∧ Same H H' ∧ H' D = some (.lst ((imgs L W).map V.int))) (fun nx hnx => ?_) ?_
    · refine ⟨_, rfl, b, W.map V.int, 1, rfl, hb, by decide, by decide, fun D hD => ?_⟩
      refine lc_it (walk_enumC (xs := W.map V.int) (c := 1)) (fun j Hj => Same H Hj ∧ Hj D = some (.lst (((List.range j).map fun i => gL L (lOf W i)).map V.int))) ⟨Same.new hD, upd_same⟩ (fun j Hj _ ⟨e, _⟩ => Same.sqt e hb) ?_ ?_
      · rintro j x Hj Hk hj ⟨ej, hDj⟩ ⟨T, y, rfl, nT, rfl, hy⟩
        rw [List.length_map] at hj
        rw [List.getElem?_map, List.getElem?_eq_getElem hj] at hy
        cases hy
        have sT : Same Hj (upd Hj T (.tup [.int (1 + (j : Nat)), V.int W[j]])) := Same.new nT
        have hT : upd Hj T (.tup [.int (1 + (j : Nat)), V.int W[j]]) T = some (.tup [.int (1 + (j : Nat)), V.int W[j]]) := upd_same
        generalize upd Hj T (.tup [.int (1 + (j : Nat)), V.int W[j]]) = Hk at *
        refine ⟨T, _, rfl, SqT.of hT, rfl, _, _, rfl, _, _, rfl, rfl, rfl, yesT ?_⟩
        show tPickZ K [some (.ref a), some (.ref b), none, some (.int (1 + (j : Nat))), some (.int W[j]), none] Hk _
        unfold tPickZ
        walk_at "rd"
        refine ⟨by show 2 ≤ sizeLine; decide, fun p hp => ?_⟩
        have sp := Same.new (o := .lst [.int (-(1 + (j : Int))), .int (1 + (j : Int))]) hp
        have el := lOf_abs W j
        have gd : W.getD j 0 = W[j] := by rw [List.getD_eq_getElem?_getD, List.getElem?_eq_getElem hj]; rfl
        have at_ : atI [V.int (-(1 + (j : Int))), V.int (1 + (j : Int))] W[j] = some (.int (lOf W j)) := by
          unfold lOf
          rw [gd]
          rcases hW _ (List.getElem_mem hj) with e | e
          · rw [e, if_neg (by decide)]
            rfl
          · rw [e, if_pos rfl]
            rfl
        refine p_ix (SqL.of upd_same) at_ ?_
        have ek := Same.trans ej (Same.trans sT sp)
        refine ⟨a, L, _, rfl, Same.sqt ek hs, by rw [el]; omega, by rw [el, t.len]; omega, _, sp _ _ (sT _ _ hDj), by rw [List.length_map, List.length_map, List.length_range]; exact small1000 (by omega), fun c o hc => ?_, ?_⟩
        · rw [upd_ne (ne_of_none hc hD)]
          exact sp _ _ (sT _ _ (ej c o hc))
        · rw [upd_same, List.range_succ, List.map_append, List.map_append]
          rfl
      · rintro H5 ⟨s5, hD5⟩
        rw [List.length_map] at hD5
        exact hnx _ _ ⟨D, rfl, s5, hD5⟩
    rintro σ' H3 ⟨D, rfl, s3, hD⟩
    have tI := trn_imgs t lW
    generalize imgs L W = I at *
    walk_at "rd"
    refine ⟨_, rfl, _, rfl, D, _, rfl, SqL.of hD, go_abs fun S p pm ho hp => ?_⟩
    have s4 : Same H3 (upd H3 p (.lst (S.map V.int))) := Same.new hp
    have hp4 : upd H3 p (.lst (S.map V.int)) p = some (.lst (S.map V.int)) := upd_same
    generalize upd H3 p (.lst (S.map V.int)) = H4 at *
    have lS : S.length ≤ 400 := by rw [pm.length_eq, tI.len]; exact h4
    refine ⟨p, rfl, ⟨_, SqL.of hp4⟩, fun D2 hD2 => lc_list (K := K) (a := p) (xs := S.map V.int) (fun j Hj => Same H4 Hj ∧ Hj D2 = some (.lst (((S.take j).map fun l => if 0 < l then (1 : Int) else 0).map V.int))) ⟨Same.new hD2, upd_same⟩ (fun j Hj _ ⟨e, _⟩ => SqL.of (e _ _ hp4)) ?_ ?_⟩
    · rintro j x Hj hj ⟨ej, hDj⟩
      rw [List.getElem?_map] at hj
      cases ez : S[j]? with
      | none => rw [ez] at hj; cases hj
      | some z =>
      rw [ez] at hj
      cases hj
      have hjl : j < S.length := (List.getElem?_eq_some_iff.mp ez).1
      refine ⟨rfl, yesT ?_⟩
      show tPos1Z [some (.ref a), some (.ref b), some (.ref D), none, none, some (.int z)] Hj _
      unfold tPos1Z
      walk_at "rd"
      refine .inr ⟨_, rfl, ?_⟩
      have e : (if decide (0 < z) = true then (1 : Int) else 0) = if 0 < z then (1 : Int) else 0 := by
        by_cases p : 0 < z <;> simp [p]
      rw [e]
      refine ⟨_, hDj, by rw [List.length_map, List.length_map, List.length_take]; exact small1000 (by omega), fun c o hc => ?_, ?_⟩
      · rw [upd_ne (ne_of_none hc hD2)]
        exact ej c o hc
      · rw [upd_same, List.take_add_one, ez]
        simp only [Option.toList_some, List.map_append, List.map_cons, List.map_nil]
    rintro H5 ⟨s5, hD5⟩
    rw [List.length_map, List.take_length, bits_eq tI pm ho] at hD5
    refine ⟨D2, _, rfl, .inl ⟨SqL.of hD5, fun c hc => ?_⟩⟩
    exact q c _ (Same.trans s3 (Same.trans s4 (Same.trans s5 (Same.new hc)))) upd_same
def bitBZ (x : V) : Bool := match x with
  | .int i => decide (i = 0 ∨ i = 1)
  | _ => false
def wsBZ (c : Option (List V)) (m : Int) : Bool := match c with
  | some xs => decide ((xs.length : Int) = m) && xs.all bitBZ
  | none => false
theorem bits_ofZ : ∀ {xs : List V}, xs.all bitBZ = true → ∃ W : List Int, xs = W.map V.int ∧ ∀ x ∈ W, x = 0 ∨ x = 1
  | [], _ => ⟨[], rfl, fun _ h => nomatch h⟩
  | x :: r, h => by
    rw [List.all_cons, Bool.and_eq_true] at h
    obtain ⟨W, e, b⟩ := bits_ofZ h.2
    have h1 : bitBZ x = true := h.1
    cases x with
    | int i =>
      refine ⟨i :: W, by rw [e]; rfl, fun j hj => ?_⟩
      rcases List.mem_cons.mp hj with rfl | hj
      · exact of_decide_eq_true h1
      · exact b j hj
    | _ => cases h1
abbrev sIsWZ : Stmt := s_is_worths
abbrev nIsWZ : List Str := ["thing", "many", "worth"]
theorem scIsWZ : FnScope nIsWZ ["thing", "many"] (defScope sIsWZ) := ⟨rfl, rfl, rfl, by decide +kernel, rfl, by decide +kernel, by decide +kernel⟩
def spIsWTZ (K : PySem.W.Frag) : Sp := fun vs H Q _ => ∃ (x : V) (m : Int) (c : Option (List V)), vs = [x, .int m] ∧ Thing K H x c ∧ ∀ H', Same H H' → Q (.bl (wsBZ c m)) H'
def tBitZ (K : PySem.W.Frag) : TE := tAndV (tCall (spIsNum K) [] E0 (tCons (tVar 2) tNil)) (tOp (rIn K false) (tVar 2) (tTup (tCons (tC (V.int 0)) (tCons (tC (V.int 1)) tNil))))
theorem ok_isWTZ {f fN : Addr} {fd fdN : FuncData} (F : Fun K "is_worths" "is_worths" sIsWZ f fd) (B : Bl mg) (N : Df K mg "is_number" sIsNum ["thing"] fN fdN) : FnOk P w K mg base CX0 2 f fd ["thing", "many"] (spIsWTZ K) := by
  have GN : FnOk P w K mg base CX0 1 fN fdN ["thing"] (spIsNum K) := ok_isNum N.F B
  refine F.ok scIsWZ (fun vs H Q E h => ?_) (fun cdv A outer s H vs Q E hr h => ?_)
  · obtain ⟨x, m, c, rfl, _⟩ := h
    rfl
  · obtain ⟨x, m, c, rfl, hx, q⟩ := h
    refine ⟨_, pss_cons (ps_if (PW.pt (pw_or (pt_cmpR op_neT (pe_callTy call_type1 (by rfl) B.type (by decide +kernel) (pa_cons (pv 0) pa_nil)) (pe_bltn (v := .ty "tuple") (by rfl) B.tuple (by decide +kernel) rfl) (nomark _))
        (pw_or1 (pt_cmpR op_ne (pe_callB call_len_seq (by rfl) B.len PySem.boot_len (pa_cons (pv 0) pa_nil)) (pv 1) (nomark _))))) (pss_one (ps_ret pe_bl)) pss_nil)
      (pss_one (ps_ret (pe_callB (cr_all rfl) (by rfl) B.all (by decide +kernel) (pa_cons (pe_lc (own := [("worth", 2)]) (g := gName 2) (tt := tYes) (te := tBitZ K) rfl scIsWZ.nd (pi_tup (pv 0)) (blkOk_by (own := [("worth", 2)]) (N := nIsWZ) (sc := defScope sIsWZ) (by decide +kernel))
          (fun _ _ _ _ _ => pg_name (i := 2) scIsWZ.nd rfl (Or.inl rfl)) (fun _ _ _ _ _ => pts_nil)
          (fun _ _ _ _ _ => pe_and (pe_call GN hr rfl N.g N.F.kp N.b .nil pass0 (pa_cons (pv 2) pa_nil)) (pe_one (pe_cmpR op_in_seq (pv 2) (pe_tup (pa_cons pe_int (pa_cons pe_int pa_nil))) rfl)))) pa_nil)))), ?_⟩
    show tSeq _ _ _ [some x, some (.int m), none] H
    refine seq_gen (fun σ' H' => σ' = [some x, some (.int m), none] ∧ H' = H ∧ ∃ xs, c = some xs ∧ (xs.length : Int) = m) (fun nx hnx => ?_) ?_
    · walk_at "rd"
      cases c with
      | none =>
        obtain ⟨T, ty, nT⟩ := hx
        refine ⟨x, T, rfl, ty, T, "tuple", rfl, rfl, Kn.ty ty, kn_tup, ?_⟩
        rw [decide_eq_false nT]
        exact iteT (itT (q H (Same.refl H)))
      | some xs =>
        obtain ⟨a, rfl, hs, hl, hy⟩ := hx
        refine ⟨.ref a, "tuple", rfl, .tup hs, "tuple", "tuple", rfl, rfl, kn_tup, kn_tup, ?_⟩
        rw [decide_eq_true rfl]
        refine iteF ⟨a, xs, rfl, .inr hs, rfl, ?_⟩
        by_cases hlen : (xs.length : Int) = m
        · rw [decide_eq_true (congrArg V.int hlen)]
          exact ⟨false, rfl, iteF (hnx _ _ ⟨rfl, rfl, xs, rfl, hlen⟩)⟩
        · rw [decide_eq_false fun z => hlen (V.int.inj z)]
          refine ⟨true, rfl, iteT ?_⟩
          have e : wsBZ (some xs) m = false := by
            show (decide ((xs.length : Int) = m) && _) = false
            rw [decide_eq_false hlen]
            rfl
          rw [← e]
          exact q H (Same.refl H)
    rintro σ' H' ⟨rfl, rfl, xs, rfl, hlen⟩
    obtain ⟨a, rfl, hs, hl, hy⟩ := hx
    walk_at "rd"
    refine ⟨_, rfl, a, rfl, ⟨_, hs⟩, fun D hD => lc_tup (K := K) (a := a) (xs := xs) (fun j Hj => Same H' Hj ∧ Hj D = some (.lst (((xs.take j).map bitBZ).map V.bl))) ⟨Same.new hD, upd_same⟩ (fun j Hj _ ⟨e, _⟩ => Same.sqt e hs) ?_ ?_⟩
    · rintro j y Hj hj ⟨ej, hDj⟩
      have hjl : j < xs.length := (List.getElem?_eq_some_iff.mp hj).1
      obtain ⟨T, ty⟩ := hy y (List.mem_of_getElem? hj)
      have tj := TyB.same ej ty
      refine ⟨rfl, yesT ?_⟩
      show tBitZ K [some (.ref a), some (.int m), some y] Hj _
      unfold tBitZ
      walk_at "rd"
      refine ⟨y, T, rfl, tj, ?_⟩
      have fin : ∀ (Hk : Hp) (v : Bool), Same Hj Hk → v = bitBZ y → ∃ acc, Hk D = some (.lst acc) ∧ acc.length < sizeLine ∧ Same H' (upd Hk D (.lst (acc ++ [V.bl v]))) ∧ upd Hk D (.lst (acc ++ [V.bl v])) D = some (.lst (((xs.take (j + 1)).map bitBZ).map V.bl)) := by
        rintro Hk v sk rfl
        refine ⟨_, sk _ _ hDj, by rw [List.length_map, List.length_map, List.length_take]; exact small1000 (by omega), fun c o hc => ?_, ?_⟩
        · rw [upd_ne (ne_of_none hc hD)]
          exact sk _ _ (ej c o hc)
        · rw [upd_same, List.take_add_one, hj]
          simp only [Option.toList_some, List.map_append, List.map_cons, List.map_nil]
      cases tj with
      | int i =>
        rw [decide_eq_true rfl]
        refine ⟨_, rfl, iteT ?_⟩
        refine ⟨by show 2 ≤ sizeLine; decide, fun p hp => ?_⟩
        have sp : Same Hj (upd Hj p (.tup [V.int 0, V.int 1])) := Same.new hp
        refine ⟨p, [V.int 0, V.int 1], rfl, .inr (SqT.of upd_same), rfl, rfl, ?_⟩
        refine fin _ _ sp ?_
        rw [if_neg (by decide)]
        show (decide ((0 : Int) = i) || (decide ((1 : Int) = i) || false)) = decide (i = 0 ∨ i = 1)
        rw [Bool.or_false, Bool.eq_iff_iff, Bool.or_eq_true, decide_eq_true_eq, decide_eq_true_eq, decide_eq_true_eq]
        omega
      | _ => exact ⟨_, rfl, iteF (fin _ _ (Same.refl _) rfl)⟩
    rintro H5 ⟨s5, hD5⟩
    rw [List.take_length] at hD5
    refine ⟨D, xs.map bitBZ, rfl, SqL.of hD5, ?_⟩
    have e : (xs.map bitBZ).all id = wsBZ (some xs) m := by
      show _ = (decide ((xs.length : Int) = m) && xs.all bitBZ)
      rw [decide_eq_true hlen, List.all_map, Bool.true_and]
      rfl
    rw [e]
    exact q H5 s5
end
end Toy

-- part: CY1
namespace Toy
open PySem L2
/-! ### going on and on -/
theorem gL_inj {n : Nat} {L : List Int} (t : Trn n L) {x y : Int} (hx : Lt n x) (hy : Lt n y) (e : gL L x = gL L y) : x = y := by
  by_cases z : absI x = absI y
  · by_cases w : x = y
    · exact w
    · exfalso
      have e2 : y = -x := by unfold absI at z; split at z <;> split at z <;> omega
      rw [e2, gL_neg L hx.1] at e
      have := (t.lt hx).1
      unfold absI at this
      split at this <;> omega
  · exfalso
    have nd : ([x, y].map absI).Nodup := List.nodup_cons.mpr ⟨fun h => z (List.mem_singleton.mp h), List.nodup_cons.mpr ⟨fun h => (nomatch h), List.nodup_nil⟩⟩
    have := nd_gL t (C := [x, y]) (fun l hl => by rcases List.mem_cons.mp hl with rfl | hl; exact hx; rw [List.mem_singleton.mp hl]; exact hy) nd
    exact (List.nodup_cons.mp this).1 (by show absI (gL L x) ∈ [absI (gL L y)]; rw [e]; exact List.mem_cons_self)
def itL (L : List Int) : Nat → Int → Int
  | 0, l => l
  | k + 1, l => gL L (itL L k l)
theorem it_lt {n : Nat} {L : List Int} (t : Trn n L) {l : Int} (h : Lt n l) : ∀ k, Lt n (itL L k l)
  | 0 => h
  | k + 1 => t.lt (it_lt t h k)
theorem it_add (L : List Int) (l : Int) (j : Nat) : ∀ k, itL L (k + j) l = itL L k (itL L j l)
  | 0 => by rw [Nat.zero_add]; rfl
  | k + 1 => by
    rw [Nat.add_right_comm]
    show gL L (itL L (k + j) l) = gL L (itL L k (itL L j l))
    rw [it_add L l j k]
theorem it_neg {n : Nat} {L : List Int} (t : Trn n L) {l : Int} (h : Lt n l) : ∀ k, itL L k (-l) = -(itL L k l)
  | 0 => rfl
  | k + 1 => by
    show gL L (itL L k (-l)) = -(gL L (itL L k l))
    rw [it_neg t h k, gL_neg L (it_lt t h k).1]
theorem it_inj {n : Nat} {L : List Int} (t : Trn n L) {x y : Int} (hx : Lt n x) (hy : Lt n y) : ∀ {k : Nat}, itL L k x = itL L k y → x = y
  | 0, e => e
  | k + 1, e => it_inj t hx hy (k := k) (gL_inj t (it_lt t hx k) (it_lt t hy k) e)
/-- all letters -/
def lettersU (n : Nat) : List Int := up n ++ (up n).map fun x => -x
theorem letters_mem {n : Nat} {x : Int} (h : Lt n x) : x ∈ lettersU n := by
  unfold lettersU
  rw [List.mem_append]
  obtain ⟨h1, h2⟩ := h
  have hu : ∀ y : Int, 1 ≤ y → y ≤ n → y ∈ up n := fun y a b => by
    have := (up_mem (n := n) (x := y)).mpr ⟨a, b⟩
    exact this
  unfold absI at h1 h2
  split at h1
  · rename_i c
    rw [if_pos c] at h2
    exact .inr (List.mem_map.mpr ⟨-x, hu _ h1 h2, by omega⟩)
  · rename_i c
    rw [if_neg c] at h2
    exact .inl (hu _ h1 h2)
theorem letters_len (n : Nat) : (lettersU n).length = 2 * n := by
  unfold lettersU
  rw [List.length_append, List.length_map, up_len]
  omega
theorem len_leC {α : Type} [DecidableEq α] : ∀ {l m : List α}, l.Nodup → (∀ x ∈ l, x ∈ m) → l.length ≤ m.length
  | [], _, _, _ => Nat.zero_le _
  | a :: r, m, nd, h => by
    obtain ⟨n1, n2⟩ := List.nodup_cons.mp nd
    have ha := h a List.mem_cons_self
    have := len_leC (l := r) (m := m.erase a) n2 fun x hx => (List.mem_erase_of_ne (fun e => n1 (by rw [← e]; exact hx))).mpr (h x (List.mem_cons_of_mem _ hx))
    rw [List.length_erase_of_mem ha] at this
    have hp := List.length_pos_of_mem ha
    simp only [List.length_cons]
    omega
/-- it comes back -/
theorem it_back {n : Nat} {L : List Int} (t : Trn n L) {l : Int} (h : Lt n l) : ∃ p, 1 ≤ p ∧ p ≤ 2 * n ∧ itL L p l = l := by
  have two : ∃ i j, i < j ∧ j ≤ 2 * n ∧ itL L i l = itL L j l := by
    refine Classical.byContradiction fun no => ?_
    have nd : ((List.range (2 * n + 1)).map fun k => itL L k l).Nodup := by
      rw [List.nodup_iff_pairwise_ne, List.pairwise_map]
      refine (List.pairwise_lt_range (n := 2 * n + 1)).imp_of_mem fun {a b} ha hb hab e => no ⟨a, b, hab, ?_, e⟩
      have := List.mem_range.mp hb
      omega
    have := len_leC nd (m := lettersU n) fun x hx => by
      obtain ⟨k, _, rfl⟩ := List.mem_map.mp hx
      exact letters_mem (it_lt t h k)
    rw [List.length_map, List.length_range, letters_len] at this
    omega
  obtain ⟨i, j, hij, hj, e⟩ := two
  refine ⟨j - i, by omega, by omega, ?_⟩
  have e2 : itL L j l = itL L i (itL L (j - i) l) := by rw [← it_add]; congr 1; omega
  rw [e2] at e
  exact (it_inj t h (it_lt t h _) e).symm
/-- the way round from k -/
structure IsCyc (L : List Int) (k : Int) (c : List Int) : Prop where
  pos : 1 ≤ c.length
  at' : ∀ j, j < c.length → c[j]? = some (itL L j k)
  back : itL L c.length k = k
  first : ∀ j, 0 < j → j < c.length → itL L j k ≠ k
theorem IsCyc.uniq {L : List Int} {k : Int} {c d : List Int} (h : IsCyc L k c) (g : IsCyc L k d) : c = d := by
  have e : c.length = d.length := by
    rcases Nat.lt_trichotomy c.length d.length with z | z | z
    · exact absurd h.back (g.first _ h.pos z)
    · exact z
    · exact absurd g.back (h.first _ g.pos z)
  refine List.ext_getElem? fun j => ?_
  by_cases z : j < c.length
  · rw [h.at' j z, g.at' j (by omega)]
  · rw [List.getElem?_eq_none (by omega), List.getElem?_eq_none (by omega)]
theorem IsCyc.of_range {L : List Int} {k : Int} {p : Nat} (h1 : 1 ≤ p) (h2 : itL L p k = k) (h3 : ∀ j, 0 < j → j < p → itL L j k ≠ k) : IsCyc L k ((List.range p).map fun j => itL L j k) := by
  refine ⟨by rw [List.length_map, List.length_range]; exact h1, fun j hj => ?_, by rw [List.length_map, List.length_range]; exact h2, fun j a b => h3 j a (by rw [List.length_map, List.length_range] at b; exact b)⟩
  rw [List.length_map, List.length_range] at hj
  rw [List.getElem?_map, List.getElem?_range hj]
  rfl
theorem IsCyc.eq_range {L : List Int} {k : Int} {c : List Int} (h : IsCyc L k c) : c = (List.range c.length).map fun j => itL L j k :=
  h.uniq (IsCyc.of_range h.pos h.back h.first)
theorem it_mul (L : List Int) {k : Int} {p : Nat} (h : itL L p k = k) : ∀ q, itL L (q * p) k = k
  | 0 => by rw [Nat.zero_mul]; rfl
  | q + 1 => by
    rw [Nat.succ_mul, it_add, h]
    exact it_mul L h q
/-- how often it must go on to be back -/
theorem IsCyc.dvd {L : List Int} {k : Int} {c : List Int} (h : IsCyc L k c) (m : Nat) : itL L m k = k ↔ c.length ∣ m := by
  constructor
  · intro e
    have hp := h.pos
    have e2 : itL L (m % c.length) k = k := by
      have e3 : m = m % c.length + m / c.length * c.length := by rw [Nat.mul_comm]; exact (Nat.mod_add_div m c.length).symm
      have e4 := it_add L k (m / c.length * c.length) (m % c.length)
      rw [← e3, it_mul L h.back, e] at e4
      exact e4.symm
    refine Nat.dvd_of_mod_eq_zero ?_
    by_cases z : m % c.length = 0
    · exact z
    · exact absurd e2 (h.first _ (by omega) (Nat.mod_lt _ hp))
  · rintro ⟨q, rfl⟩
    rw [Nat.mul_comm]
    exact it_mul L h.back q
/-- rounds that meet all truths that move -/
structure Cov (n : Nat) (L : List Int) (Cs : List (List Int)) : Prop where
  cyc : ∀ c ∈ Cs, ∃ k, Lt n k ∧ IsCyc L k c
  all : ∀ l, Lt n l → gL L l = l ∨ ∃ c ∈ Cs, ∃ x ∈ c, absI x = absI l
theorem Cov.dvd {n : Nat} {L : List Int} {Cs : List (List Int)} (t : Trn n L) (o : Cov n L Cs) (m : Nat) : (∀ c ∈ Cs, c.length ∣ m) ↔ ∀ l, Lt n l → itL L m l = l := by
  constructor
  · intro h l hl
    rcases o.all l hl with e | ⟨c, hc, x, hx, ex⟩
    · have : ∀ m, itL L m l = l := fun m => by
        induction m with
        | zero => rfl
        | succ m ih => show gL L (itL L m l) = l; rw [ih, e]
      exact this m
    · obtain ⟨k, hk, cy⟩ := o.cyc c hc
      have e1 := (cy.dvd m).mpr (h c hc)
      obtain ⟨j, hj⟩ := List.getElem?_of_mem hx
      have hjl : j < c.length := (List.getElem?_eq_some_iff.mp hj).1
      have e2 := cy.at' j hjl
      rw [hj] at e2
      have e3 : x = itL L j k := Option.some.inj e2
      have hxl : Lt n x := by rw [e3]; exact it_lt t hk j
      have e4 : itL L m x = x := by
        rw [e3, ← it_add, Nat.add_comm, it_add, e1]
      have : l = x ∨ l = -x := by unfold absI at ex; split at ex <;> split at ex <;> omega
      rcases this with rfl | rfl
      · exact e4
      · rw [it_neg t hxl, e4]
  · intro h c hc
    obtain ⟨k, hk, cy⟩ := o.cyc c hc
    exact (cy.dvd m).mp (h k hk)
def lcmL (l : List Nat) : Nat := l.foldl Nat.lcm 1
theorem lcm_fold : ∀ (l : List Nat) (a m : Nat), l.foldl Nat.lcm a ∣ m ↔ a ∣ m ∧ ∀ x ∈ l, x ∣ m
  | [], a, m => ⟨fun h => ⟨h, fun x hx => nomatch hx⟩, fun h => h.1⟩
  | x :: r, a, m => by
    rw [List.foldl_cons, lcm_fold r (Nat.lcm a x) m, Nat.lcm_dvd_iff]
    constructor
    · rintro ⟨⟨h1, h2⟩, h3⟩
      exact ⟨h1, fun y hy => by rcases List.mem_cons.mp hy with rfl | hy; exact h2; exact h3 y hy⟩
    · rintro ⟨h1, h2⟩
      exact ⟨⟨h1, h2 x List.mem_cons_self⟩, fun y hy => h2 y (List.mem_cons_of_mem _ hy)⟩
theorem lcmL_dvd (l : List Nat) (m : Nat) : lcmL l ∣ m ↔ ∀ x ∈ l, x ∣ m := by
  unfold lcmL
  rw [lcm_fold]
  exact ⟨fun h => h.2, fun h => ⟨Nat.one_dvd m, h⟩⟩
theorem lcm_eq {a b : List Nat} (h : ∀ m, (∀ x ∈ a, x ∣ m) ↔ ∀ x ∈ b, x ∣ m) : lcmL a = lcmL b :=
  Nat.dvd_antisymm ((lcmL_dvd a _).mpr ((h _).mpr ((lcmL_dvd b _).mp (Nat.dvd_refl _)))) ((lcmL_dvd b _).mpr ((h _).mp ((lcmL_dvd a _).mp (Nat.dvd_refl _))))
/-- two sets of rounds of one turn have one number -/
theorem Cov.lcm {n : Nat} {L : List Int} {Cs Ds : List (List Int)} (t : Trn n L) (o : Cov n L Cs) (o2 : Cov n L Ds) : lcmL (Cs.map List.length) = lcmL (Ds.map List.length) :=
  lcm_eq fun m => by
    have e : ∀ Es : List (List Int), (∀ x ∈ Es.map List.length, x ∣ m) ↔ ∀ c ∈ Es, c.length ∣ m := fun Es => by
      constructor
      · exact fun h c hc => h _ (List.mem_map.mpr ⟨c, hc, rfl⟩)
      · intro h x hx
        obtain ⟨c, hc, rfl⟩ := List.mem_map.mp hx
        exact h c hc
    rw [e, e, o.dvd t, o2.dvd t]
/-- the way round from k, if there is one -/
noncomputable def cycL (L : List Int) (k : Int) : List Int := open Classical in if h : ∃ c, IsCyc L k c then Classical.choose h else []
theorem cycL_eq {L : List Int} {k : Int} {c : List Int} (h : IsCyc L k c) : cycL L k = c := by
  unfold cycL
  have e : ∃ c, IsCyc L k c := ⟨c, h⟩
  rw [dif_pos e]
  exact (Classical.choose_spec e).uniq h
/-- the truths that stand in rounds -/
def seenR (R : List (List Int)) : List Int := R.flatten.map absI
/-- the rounds of the first truths -/
noncomputable def rdL (L : List Int) : Nat → List (List Int)
  | 0 => []
  | t + 1 => open Classical in if ((t + 1 : Nat) : Int) ∉ seenR (rdL L t) ∧ gL L ((t + 1 : Nat) : Int) ≠ ((t + 1 : Nat) : Int) then rdL L t ++ [cycL L ((t + 1 : Nat) : Int)] else rdL L t
end Toy

-- part: CYP
/-! rounds in numbers, without the program (of CY2 and CY7: use these or those) -/
namespace Toy
open PySem L2
theorem rdL_in {L : List Int} {t : Nat} {c : List Int} (h1 : ((t + 1 : Nat) : Int) ∉ seenR (rdL L t)) (h2 : gL L ((t + 1 : Nat) : Int) ≠ ((t + 1 : Nat) : Int)) (hc : IsCyc L ((t + 1 : Nat) : Int) c) : rdL L (t + 1) = rdL L t ++ [c] := by
  rw [← cycL_eq hc]
  conv => lhs; unfold rdL
  exact if_pos (And.intro h1 h2)
theorem rdL_out {L : List Int} {t : Nat} (h : ((t + 1 : Nat) : Int) ∈ seenR (rdL L t) ∨ gL L ((t + 1 : Nat) : Int) = ((t + 1 : Nat) : Int)) : rdL L (t + 1) = rdL L t := by
  conv => lhs; unfold rdL
  exact if_neg fun z => h.elim z.1 z.2
theorem seenR_app (R : List (List Int)) (c : List Int) (x : Int) : x ∈ seenR (R ++ [c]) ↔ x ∈ seenR R ∨ x ∈ c.map absI := by
  unfold seenR
  rw [List.flatten_append, List.map_append, List.mem_append]
  simp only [List.flatten_cons, List.flatten_nil, List.append_nil]
theorem IsCyc.lt {n : Nat} {L : List Int} (t : Trn n L) {k : Int} (hk : Lt n k) {c : List Int} (h : IsCyc L k c) {x : Int} (hx : x ∈ c) : Lt n x := by
  obtain ⟨j, hj⟩ := List.getElem?_of_mem hx
  have hjl : j < c.length := (List.getElem?_eq_some_iff.mp hj).1
  have e2 := h.at' j hjl
  rw [hj] at e2
  rw [Option.some.inj e2]
  exact it_lt t hk j
theorem least_back {L : List Int} {k : Int} : ∀ (m p : Nat), p ≤ m → 1 ≤ p → itL L p k = k → ∃ q, 1 ≤ q ∧ itL L q k = k ∧ ∀ j, 0 < j → j < q → itL L j k ≠ k
  | 0, p, h, h1, _ => absurd h1 (by omega)
  | m + 1, p, h, h1, e => by
    by_cases c : ∃ j, 0 < j ∧ j < p ∧ itL L j k = k
    · obtain ⟨j, j0, jp, ej⟩ := c
      exact least_back m j (by omega) j0 ej
    · exact ⟨p, h1, e, fun j a b z => c ⟨j, a, b, z⟩⟩
theorem cyc_ex {n : Nat} {L : List Int} (t : Trn n L) {k : Int} (h : Lt n k) : ∃ c, IsCyc L k c := by
  obtain ⟨p, p1, _, pb⟩ := it_back t h
  obtain ⟨q, q1, qb, qn⟩ := least_back p p (Nat.le_refl _) p1 pb
  exact ⟨_, IsCyc.of_range q1 qb qn⟩
theorem IsCyc.short {n : Nat} {L : List Int} (t : Trn n L) {k : Int} (h : Lt n k) {c : List Int} (hc : IsCyc L k c) : c.length ≤ 2 * n := by
  obtain ⟨p, p1, p2, pb⟩ := it_back t h
  exact Nat.le_trans (Nat.le_of_dvd p1 ((hc.dvd p).mp pb)) p2
theorem rdL_all {n : Nat} {L : List Int} (t : Trn n L) : ∀ m, m ≤ n → (∀ c ∈ rdL L m, ∃ k, Lt n k ∧ IsCyc L k c) ∧ (rdL L m).length ≤ m ∧ ∀ j : Nat, 1 ≤ j → j ≤ m → gL L (j : Int) = (j : Int) ∨ (j : Int) ∈ seenR (rdL L m)
  | 0, _ => ⟨fun c hc => (nomatch hc), Nat.le_refl _, fun j a b => absurd a (by omega)⟩
  | m + 1, h => by
    obtain ⟨h1, h2, h3⟩ := rdL_all t m (by omega)
    have hlt : Lt n ((m + 1 : Nat) : Int) := ⟨by unfold absI; rw [if_neg (by omega)]; omega, by unfold absI; rw [if_neg (by omega)]; omega⟩
    by_cases c : ((m + 1 : Nat) : Int) ∈ seenR (rdL L m) ∨ gL L ((m + 1 : Nat) : Int) = ((m + 1 : Nat) : Int)
    · rw [rdL_out c]
      refine ⟨h1, by omega, fun j a b => ?_⟩
      by_cases z : j = m + 1
      · subst z
        exact c.symm
      · exact h3 j a (by omega)
    · obtain ⟨d, hd⟩ := cyc_ex t hlt
      rw [rdL_in (fun z => c (.inl z)) (fun z => c (.inr z)) hd]
      refine ⟨fun e he => ?_, by rw [List.length_append]; show (rdL L m).length + 1 ≤ m + 1; omega, fun j a b => ?_⟩
      · rcases List.mem_append.mp he with he | he
        · exact h1 e he
        · rw [List.mem_singleton.mp he]
          exact ⟨_, hlt, hd⟩
      · rw [seenR_app]
        by_cases z : j = m + 1
        · subst z
          refine .inr (.inr (List.mem_map.mpr ⟨((m + 1 : Nat) : Int), ?_, ?_⟩))
          · have := hd.at' 0 hd.pos
            exact List.mem_of_getElem? this
          · unfold absI
            rw [if_neg (by omega)]
        · exact (h3 j a (by omega)).imp id .inl
theorem rdL_cov {n : Nat} {L : List Int} (t : Trn n L) : Cov n L (rdL L n) := by
  obtain ⟨h1, _, h3⟩ := rdL_all t n (Nat.le_refl _)
  refine ⟨h1, fun l hl => ?_⟩
  obtain ⟨j, hj⟩ := Int.eq_ofNat_of_zero_le (show (0 : Int) ≤ absI l by have := hl.1; omega)
  have g := h3 j (by have := hl.1; omega) (by have := hl.2; omega)
  have el : l = (j : Int) ∨ l = -(j : Int) := by
    unfold absI at hj
    split at hj <;> omega
  rcases g with e | e
  · left
    rcases el with rfl | rfl
    · exact e
    · rw [gL_neg L (by have := hl.1; rw [absI_neg] at this; exact this), e]
  · right
    obtain ⟨x, hx, ex⟩ := List.mem_map.mp e
    obtain ⟨c, hc, hxc⟩ := List.mem_flatten.mp hx
    exact ⟨c, hc, x, hxc, by rw [ex, hj]⟩
def itUp (L : List Int) (n m : Nat) : List Int := (up n).map (itL L m)
theorem itUp_succ (L : List Int) (n m : Nat) : joined (itUp L n m) L = itUp L n (m + 1) := by
  unfold joined itUp
  rw [List.map_map]
  rfl
theorem itUp_zero (L : List Int) (n : Nat) : itUp L n 0 = up n := by
  unfold itUp
  exact (List.map_congr_left fun x _ => rfl).trans (List.map_id _)
end Toy

-- part: GC1
namespace Toy
open PySem L2
/-! ### what makers make (numbers alone) -/
inductive Gen (n : Nat) (S : List (List Int)) : List Int → Prop where
  | one : Gen n S (up n)
  | mul {a m : List Int} : Gen n S a → m ∈ S → Gen n S (joined a m)
theorem Gen.trn {n : Nat} {S : List (List Int)} (hS : ∀ m ∈ S, Trn n m) {a : List Int} (h : Gen n S a) : Trn n a := by
  induction h with
  | one => exact trn_up n
  | mul _ hm ih => exact trn_joined ih (hS _ hm)
theorem join_one {n : Nat} {a : List Int} (t : Trn n a) : joined a (up n) = a := ext_gL (join_len.trans t.len) t.len fun l hl => by rw [gL_joined t hl, gL_up (t.lt hl)]
theorem one_join {n : Nat} {a : List Int} (t : Trn n a) : joined (up n) a = a := ext_gL (join_len.trans (up_len n)) t.len fun l hl => by rw [gL_joined (trn_up n) hl, gL_up hl]
theorem Gen.of {n : Nat} {S : List (List Int)} (hS : ∀ m ∈ S, Trn n m) {m : List Int} (h : m ∈ S) : Gen n S m := by
  have := Gen.mul (Gen.one (n := n) (S := S)) h
  rw [one_join (hS m h)] at this
  exact this
theorem Gen.prod {n : Nat} {S : List (List Int)} (hS : ∀ m ∈ S, Trn n m) {a b : List Int} (ha : Gen n S a) (hb : Gen n S b) : Gen n S (joined a b) := by
  induction hb with
  | one => rw [join_one (ha.trn hS)]; exact ha
  | mul h hm ih =>
    rw [← join_assoc (ha.trn hS) (h.trn hS)]
    exact .mul ih hm
theorem Gen.into {n : Nat} {S T : List (List Int)} (hT : ∀ m ∈ T, Trn n m) (h : ∀ m ∈ S, Gen n T m) {a : List Int} (ha : Gen n S a) : Gen n T a := by
  induction ha with
  | one => exact .one
  | mul _ hm ih => exact ih.prod hT (h _ hm)
theorem some_dvd : ∀ l : List Nat, (∀ x ∈ l, 0 < x) → ∃ m, 0 < m ∧ ∀ x ∈ l, x ∣ m
  | [], _ => ⟨1, by decide, fun x hx => nomatch hx⟩
  | x :: r, h => by
    obtain ⟨m, m0, hm⟩ := some_dvd r fun y hy => h y (List.mem_cons_of_mem _ hy)
    exact ⟨x * m, Nat.mul_pos (h x List.mem_cons_self) m0, fun y hy => by
      rcases List.mem_cons.mp hy with rfl | hy
      · exact Nat.dvd_mul_right y m
      · exact Nat.dvd_trans (hm y hy) (Nat.dvd_mul_left m x)⟩
theorem order_ex {n : Nat} {L : List Int} (t : Trn n L) : ∃ m, 0 < m ∧ ∀ l, Lt n l → itL L m l = l := by
  obtain ⟨m, m0, hm⟩ := some_dvd ((rdL L n).map List.length) fun x hx => by
    obtain ⟨c, hc, rfl⟩ := List.mem_map.mp hx
    obtain ⟨k, _, cy⟩ := (rdL_cov t).cyc c hc
    exact cy.pos
  exact ⟨m, m0, ((rdL_cov t).dvd t m).mp fun c hc => hm _ (List.mem_map.mpr ⟨c, hc, rfl⟩)⟩
theorem gL_itUp {n : Nat} {L : List Int} (t : Trn n L) (m : Nat) {l : Int} (h : Lt n l) : gL (itUp L n m) l = itL L m l := by
  obtain ⟨j, hj, e⟩ := h.two
  have main : gL (itUp L n m) (1 + (j : Int)) = itL L m (1 + (j : Int)) := by
    rw [gL_nat]
    unfold itUp up
    rw [List.map_map, List.getD_eq_getElem?_getD, List.getElem?_map, List.getElem?_range hj]
    rfl
  have hp : Lt n (1 + (j : Int)) := Lt.nat hj
  rcases e with rfl | rfl
  · exact main
  · rw [gL_neg _ hp.1, main, it_neg t hp]
theorem trn_itUp {n : Nat} {L : List Int} (t : Trn n L) : ∀ m, Trn n (itUp L n m)
  | 0 => by rw [itUp_zero]; exact trn_up n
  | m + 1 => by rw [← itUp_succ]; exact trn_joined (trn_itUp t m) t
theorem back_ex {n : Nat} {L : List Int} (t : Trn n L) : ∃ m, Bk n L (itUp L n m) := by
  obtain ⟨m, m0, h⟩ := order_ex t
  refine ⟨m - 1, (trn_itUp t _).len, fun l hl => ?_⟩
  rw [gL_itUp t _ (t.lt hl)]
  have := it_add L l 1 (m - 1)
  rw [show m - 1 + 1 = m by omega, h l hl] at this
  exact this.symm
theorem Gen.it {n : Nat} {S : List (List Int)} (hS : ∀ m ∈ S, Trn n m) {a : List Int} (h : Gen n S a) : ∀ m, Gen n S (itUp a n m)
  | 0 => by rw [itUp_zero]; exact .one
  | m + 1 => by rw [← itUp_succ]; exact (Gen.it hS h m).prod hS h
theorem Gen.back {n : Nat} {S : List (List Int)} (hS : ∀ m ∈ S, Trn n m) {a b : List Int} (h : Gen n S a) (k : Bk n a b) : Gen n S b := by
  have t := h.trn hS
  obtain ⟨m, hm⟩ := back_ex t
  rw [k.uniq t hm]
  exact h.it hS m
/-! ### floors -/
structure Lv where
  pt : Int
  gs : List (Int × List Int)
  ms : List (List Int)
/-- a turn goes down through the floors -/
def Sift (n : Nat) : List Lv → List Int → Prop
  | [], _ => True
  | v :: r, t => ∃ u b, v.gs.lookup (gL t v.pt) = some u ∧ Bk n u b ∧ Sift n r (joined t b)
def GenL (n : Nat) : List Lv → List Int → Prop
  | [], t => t = up n
  | v :: _, t => Gen n v.ms t
structure LvOk (n : Nat) (v : Lv) : Prop where
  pt : Lt n v.pt
  tr : ∀ m ∈ v.ms, Trn n m
  one : v.gs.lookup v.pt = some (up n)
  way : ∀ g u, v.gs.lookup g = some u → Gen n v.ms u ∧ gL u v.pt = g
/-- whole floors: every way on is known, and what is left over goes down -/
def Full (n : Nat) : List Lv → Prop
  | [] => True
  | v :: r => Full n r ∧ LvOk n v ∧ (∀ t, GenL n r t → Gen n v.ms t ∧ gL t v.pt = v.pt) ∧
      ∀ g u, v.gs.lookup g = some u → ∀ m ∈ v.ms, ∃ u' b, v.gs.lookup (gL m g) = some u' ∧ Bk n u' b ∧ Sift n r (joined (joined u m) b)
theorem bk_one (n : Nat) : Bk n (up n) (up n) := ⟨up_len n, fun l hl => by rw [gL_up hl, gL_up hl]⟩
theorem sift_one {n : Nat} : ∀ {lv : List Lv}, Full n lv → Sift n lv (up n)
  | [], _ => trivial
  | v :: r, h => by
    obtain ⟨h1, h2, _⟩ := h
    refine ⟨up n, up n, by rw [gL_up h2.pt]; exact h2.one, bk_one n, ?_⟩
    rw [join_one (trn_up n)]
    exact sift_one h1
/-- turns that keep the letters F -/
def Keeps (F : List Int) (t : List Int) : Prop := ∀ p ∈ F, gL t p = p
/-- the letters of the floors, and F, are enough -/
def Enough (n : Nat) (F : List Int) (lv : List Lv) : Prop := ∀ t, Trn n t → Keeps F t → (∀ v ∈ lv, gL t v.pt = v.pt) → t = up n
theorem Enough.next {n : Nat} {F : List Int} {v : Lv} {r : List Lv} (h : Enough n F (v :: r)) : Enough n (v.pt :: F) r := fun t ht k f => h t ht (fun p hp => k p (List.mem_cons_of_mem _ hp)) fun w hw => by
  rcases List.mem_cons.mp hw with rfl | hw
  · exact k _ List.mem_cons_self
  · exact f w hw
theorem Gen.keeps {n : Nat} {S : List (List Int)} {F : List Int} (hS : ∀ m ∈ S, Trn n m) (hF : ∀ p ∈ F, Lt n p) (h : ∀ m ∈ S, Keeps F m) {a : List Int} (g : Gen n S a) : Keeps F a := by
  induction g with
  | one => exact fun p hp => gL_up (hF p hp)
  | mul ha hm ih => exact fun p hp => by rw [gL_joined (ha.trn hS) (hF p hp), ih p hp, h _ hm p hp]
theorem Keeps.join {n : Nat} {F : List Int} (hF : ∀ p ∈ F, Lt n p) {a b : List Int} (ta : Trn n a) (ha : Keeps F a) (hb : Keeps F b) : Keeps F (joined a b) := fun p hp => by rw [gL_joined ta (hF p hp), ha p hp, hb p hp]
theorem Keeps.back {n : Nat} {F : List Int} (hF : ∀ p ∈ F, Lt n p) {a b : List Int} (ha : Keeps F a) (k : Bk n a b) : Keeps F b := fun p hp => by
  have := k.inv p (hF p hp)
  rw [ha p hp] at this
  exact this
/-- what goes down is made -/
theorem sift_gen {n : Nat} : ∀ {lv : List Lv} {F : List Int}, Full n lv → Enough n F lv → (∀ p ∈ F, Lt n p) → (∀ t, GenL n lv t → Keeps F t) → ∀ {t : List Int}, Trn n t → Keeps F t → Sift n lv t → GenL n lv t
  | [], F, _, en, _, _, t, ht, kt, _ => en t ht kt fun v hv => nomatch hv
  | v :: r, F, h, en, hF, gk, t, ht, kt, s => by
    obtain ⟨h1, h2, h3, h4⟩ := h
    obtain ⟨u, b, hu, hb, s2⟩ := s
    obtain ⟨gu, eu⟩ := h2.way _ _ hu
    have tu := gu.trn h2.tr
    have tb := hb.trn tu
    have kb : Keeps (v.pt :: F) (joined t b) := fun p hp => by
      rcases List.mem_cons.mp hp with rfl | hp
      · rw [gL_joined ht h2.pt, ← eu, hb.inv _ h2.pt]
      · exact Keeps.join hF ht kt ((gk u gu).back hF hb) p hp
    have g := sift_gen h1 en.next (fun p hp => by rcases List.mem_cons.mp hp with rfl | hp; exact h2.pt; exact hF p hp) (fun t' g' p hp => by
      rcases List.mem_cons.mp hp with rfl | hp
      · exact (h3 _ g').2
      · exact gk _ (h3 _ g').1 p hp) (trn_joined ht tb) kb s2
    have gt := (h3 _ g).1.prod h2.tr gu
    have e : joined (joined t b) u = t := by rw [join_assoc ht tb, hb.l tu, join_one ht]
    rw [e] at gt
    exact gt
theorem GenL.trn {n : Nat} {lv : List Lv} (h : Full n lv) {t : List Int} (g : GenL n lv t) : Trn n t := by
  cases lv with
  | nil => rw [show t = up n from g]; exact trn_up n
  | cons v r => exact Gen.trn h.2.1.tr g
theorem GenL.prod {n : Nat} {lv : List Lv} (h : Full n lv) {a b : List Int} (ga : GenL n lv a) (gb : GenL n lv b) : GenL n lv (joined a b) := by
  cases lv with
  | nil => rw [show a = up n from ga, show b = up n from gb]; exact join_one (trn_up n)
  | cons v r => exact Gen.prod h.2.1.tr ga gb
/-- what is made goes down -/
theorem gen_sift {n : Nat} : ∀ {lv : List Lv} {F : List Int}, Full n lv → Enough n F lv → (∀ p ∈ F, Lt n p) → (∀ t, GenL n lv t → Keeps F t) → ∀ {t : List Int}, GenL n lv t → Sift n lv t
  | [], F, _, _, _, _, t, _ => trivial
  | v :: r, F, h, en, hF, gk, t, g => by
    have hw := h
    obtain ⟨h1, h2, h3, h4⟩ := h
    have hF2 : ∀ p ∈ v.pt :: F, Lt n p := fun p hp => by rcases List.mem_cons.mp hp with rfl | hp; exact h2.pt; exact hF p hp
    have gk2 : ∀ t, GenL n r t → Keeps (v.pt :: F) t := fun t' g' p hp => by
      rcases List.mem_cons.mp hp with rfl | hp
      · exact (h3 _ g').2
      · exact gk _ (h3 _ g').1 p hp
    have gg : Gen n v.ms t := g
    clear g
    induction gg with
    | one => exact sift_one hw
    | @mul a m ga hm ih =>
      obtain ⟨u, b, hu, hb, s2⟩ := ih
      obtain ⟨gu, eu⟩ := h2.way _ _ hu
      have ta := ga.trn h2.tr
      have tm := h2.tr m hm
      have tu := gu.trn h2.tr
      have tb := hb.trn tu
      obtain ⟨u', b', hu', hb', s3⟩ := h4 _ _ hu m hm
      obtain ⟨gu', eu'⟩ := h2.way _ _ hu'
      have tu' := gu'.trn h2.tr
      have tb' := hb'.trn tu'
      have kF := gk _ ga
      have kab : Keeps (v.pt :: F) (joined a b) := fun p hp => by
        rcases List.mem_cons.mp hp with rfl | hp
        · rw [gL_joined ta h2.pt, ← eu, hb.inv _ h2.pt]
        · exact Keeps.join hF ta kF ((gk u gu).back hF hb) p hp
      have g1 := sift_gen h1 en.next hF2 gk2 (trn_joined ta tb) kab s2
      have tum := trn_joined tu tm
      have ku : Keeps (v.pt :: F) (joined (joined u m) b') := fun p hp => by
        rcases List.mem_cons.mp hp with rfl | hp
        · rw [gL_joined tum h2.pt, gL_joined tu h2.pt, eu, ← eu', hb'.inv _ h2.pt]
        · exact Keeps.join hF tum (Keeps.join hF tu (gk u gu) (gk m (Gen.of h2.tr hm))) ((gk u' gu').back hF hb') p hp
      have g2 := sift_gen h1 en.next hF2 gk2 (trn_joined tum tb') ku s3
      have g3 := gen_sift h1 en.next hF2 gk2 (g1.prod h1 g2)
      refine ⟨u', b', by rw [gL_joined ta h2.pt]; exact hu', hb', ?_⟩
      have e : joined (joined a b) (joined (joined u m) b') = joined (joined a m) b' := by
        rw [← join_assoc (trn_joined ta tb) tum, ← join_assoc (trn_joined ta tb) tu, join_assoc ta tb, hb.l tu, join_one ta]
      rw [e] at g3
      exact g3
end Toy

-- part: KV2
namespace Toy
open PySem L2
/-! ### the answers that one answer is led to, in numbers -/
theorem nodup_snocZ {α : Type} {l : List α} {x : α} (h : l.Nodup) (n : x ∉ l) : (l ++ [x]).Nodup := by
  rw [List.nodup_append]
  exact ⟨h, by simp, fun a ha b hb e => n (by rw [List.mem_singleton.mp hb] at e; rw [← e]; exact ha)⟩
def ledA (n : Nat) (L W : List Int) : List Int := bitsOf n (imgs L W)
theorem ledA_bits (n : Nat) (L W : List Int) : Bits n (ledA n L W) := ⟨bits_len n _, bits_01 n _⟩
inductive KinR (n : Nat) (Ls : List (List Int)) (W : List Int) : List Int → Prop
  | one : KinR n Ls W W
  | go {X L : List Int} : KinR n Ls W X → L ∈ Ls → KinR n Ls W (ledA n L X)
theorem KinR.bits {n : Nat} {Ls : List (List Int)} {W X : List Int} (b : Bits n W) (r : KinR n Ls W X) : Bits n X := by
  cases r with
  | one => exact b
  | go _ _ => exact ledA_bits _ _ _
theorem bits_hd {n : Nat} {W U : List Int} (b : Bits n W) (c : Bits n U) (h : ∀ l, Lt n l → hd W l = hd U l) : W = U := by
  refine List.ext_getElem (by rw [b.1, c.1]) fun j h1 h2 => ?_
  have hj : j < n := by rw [← b.1]; exact h1
  have e := h _ (Lt.nat hj)
  rw [hd_natZ, hd_natZ, gD h1, gD h2] at e
  have b1 := b.2 _ (List.getElem_mem h1)
  have c1 := c.2 _ (List.getElem_mem h2)
  rcases b1 with p | p <;> rcases c1 with q | q <;> rw [p, q] at e ⊢ <;> simp at e
theorem ledA_up {n : Nat} {W : List Int} (b : Bits n W) : ledA n (up n) W = W :=
  bits_hd (ledA_bits n _ W) b fun l hl => by
    have := hd_led (trn_up n) b.1 b.2 hl
    rw [gL_up hl] at this
    exact this
theorem ledA_join {n : Nat} {L M W : List Int} (t : Trn n L) (b : Bits n W) : ledA n (joined L M) W = ledA n M (ledA n L W) := bits_join t b.1 b.2
theorem allb_two : ∀ n, (allb n).length = 2 ^ n
  | 0 => rfl
  | n + 1 => by
    show ((allb n).flatMap fun p => [p ++ [0], p ++ [1]]).length = _
    have : ∀ l : List (List Int), (l.flatMap fun p => [p ++ [0], p ++ [1]]).length = 2 * l.length := fun l => by
      induction l with
      | nil => rfl
      | cons a r ih => rw [List.flatMap_cons, List.length_append, ih, List.length_cons]; simp only [List.length_cons, List.length_nil]; omega
    rw [this, allb_two n, Nat.pow_succ, Nat.mul_comm]
/-! ### the walk that finds the ways -/
abbrev WSt := List (List Int × List Int) × List (List Int)
def wayOf (kv : List (List Int × List Int)) (s : List Int) : List Int := ((kv.find? fun p => decide (p.1 = s)).map (·.2)).getD []
def wPut (n : Nat) (s : List Int) (st : WSt) (L : List Int) : WSt := if ledA n L s ∈ st.1.map (·.1) then st else (st.1 ++ [(ledA n L s, joined (wayOf st.1 s) L)], st.2 ++ [ledA n L s])
def wStep (n : Nat) (Ls : List (List Int)) (st : WSt) : WSt := match st.2.getLast? with
  | none => st
  | some s => Ls.foldl (wPut n s) (st.1, st.2.dropLast)
def wIt (n : Nat) (Ls : List (List Int)) (W : List Int) : Nat → WSt
  | 0 => ([(W, up n)], [W])
  | k + 1 => wStep n Ls (wIt n Ls W k)
theorem wIt_done {n : Nat} {Ls : List (List Int)} {W : List Int} {k : Nat} (h : (wIt n Ls W k).2 = []) : ∀ m, k ≤ m → wIt n Ls W m = wIt n Ls W k := by
  intro m hm
  induction m with
  | zero => rw [show k = 0 by omega]
  | succ m ih =>
    rcases Nat.lt_or_ge m k with p | p
    · rw [show m + 1 = k by omega]
    · have := ih p
      show wStep n Ls (wIt n Ls W m) = _
      rw [this]
      unfold wStep
      rw [h]
      rfl
open Classical in
noncomputable def waysL (n : Nat) (Ls : List (List Int)) (W : List Int) : List (List Int × List Int) := if h : ∃ k, (wIt n Ls W k).2 = [] then (wIt n Ls W h.choose).1 else []
theorem waysL_eq {n : Nat} {Ls : List (List Int)} {W : List Int} {k : Nat} (h : (wIt n Ls W k).2 = []) : waysL n Ls W = (wIt n Ls W k).1 := by
  have hx : ∃ k, (wIt n Ls W k).2 = [] := ⟨k, h⟩
  unfold waysL
  rw [dif_pos hx]
  rcases Nat.le_total k hx.choose with p | p
  · rw [wIt_done h _ p]
  · rw [wIt_done hx.choose_spec _ p]
/-- what the walk keeps -/
structure WInv (n : Nat) (Ls : List (List Int)) (W : List Int) (st : WSt) : Prop where
  nd : (st.1.map (·.1)).Nodup
  gen : ∀ p ∈ st.1, Gen n Ls p.2 ∧ ledA n p.2 W = p.1 ∧ KinR n Ls W p.1
  one : W ∈ st.1.map (·.1)
  lin : ∀ x ∈ st.2, x ∈ st.1.map (·.1)
  le : st.2.length ≤ st.1.length
theorem wayOf_mem {kv : List (List Int × List Int)} {s : List Int} (h : s ∈ kv.map (·.1)) : (s, wayOf kv s) ∈ kv := by
  obtain ⟨p, hp, e⟩ := List.mem_map.mp h
  unfold wayOf
  cases hf : kv.find? fun p => decide (p.1 = s) with
  | none =>
    have := List.find?_eq_none.mp hf p hp
    simp [e] at this
  | some q =>
    have h1 := List.mem_of_find?_eq_some hf
    have h2 := List.find?_some hf
    rw [decide_eq_true_eq] at h2
    show (s, q.2) ∈ kv
    rw [← h2]
    exact h1
theorem wayOf_app {kv : List (List Int × List Int)} {q : List Int × List Int} {s : List Int} (h : s ∈ kv.map (·.1)) : wayOf (kv ++ [q]) s = wayOf kv s := by
  obtain ⟨p, hp, e⟩ := List.mem_map.mp h
  unfold wayOf
  rw [List.find?_append]
  cases hf : kv.find? fun p => decide (p.1 = s) with
  | none =>
    have := List.find?_eq_none.mp hf p hp
    simp [e] at this
  | some q => rfl
section
variable {n : Nat} {Ls : List (List Int)} {W : List Int}
theorem WInv.put {s : List Int} {st : WSt} (okL : ∀ L ∈ Ls, Trn n L) (bW : Bits n W) (I : WInv n Ls W st) (hs : s ∈ st.1.map (·.1)) {L : List Int} (hL : L ∈ Ls) : WInv n Ls W (wPut n s st L) ∧ (∀ x ∈ st.1.map (·.1), x ∈ (wPut n s st L).1.map (·.1)) ∧ ledA n L s ∈ (wPut n s st L).1.map (·.1) ∧ 2 * (wPut n s st L).1.length = 2 * st.1.length + 2 * ((wPut n s st L).2.length - st.2.length) ∧ st.2.length ≤ (wPut n s st L).2.length ∧ (∀ x ∈ (wPut n s st L).1.map (·.1), x ∈ st.1.map (·.1) ∨ x ∈ (wPut n s st L).2) ∧ ∀ x ∈ st.2, x ∈ (wPut n s st L).2 := by
  unfold wPut
  by_cases c : ledA n L s ∈ st.1.map (·.1)
  · rw [if_pos c]
    exact ⟨I, fun x h => h, c, by omega, Nat.le_refl _, fun x h => .inl h, fun x h => h⟩
  · rw [if_neg c]
    have hm := wayOf_mem hs
    obtain ⟨g, e, k⟩ := I.gen _ hm
    refine ⟨⟨?_, fun p hp => ?_, ?_, fun x hx => ?_, by have := I.le; simp only [List.length_append, List.length_cons, List.length_nil]; omega⟩, fun x h => ?_, ?_, ?_, ?_, fun x h => ?_, fun x h => List.mem_append_left _ h⟩
    · rw [List.map_append]
      exact nodup_snocZ I.nd c
    · rcases List.mem_append.mp hp with h | h
      · exact I.gen p h
      · rw [List.mem_singleton.mp h]
        refine ⟨.mul g hL, ?_, .go k hL⟩
        show ledA n (joined _ L) W = ledA n L s
        rw [ledA_join (g.trn okL) bW]
        show ledA n L (ledA n (wayOf st.1 s) W) = _
        rw [show ledA n (wayOf st.1 s) W = s from e]
    · rw [List.map_append]
      exact List.mem_append_left _ I.one
    · rw [List.map_append]
      rcases List.mem_append.mp hx with h | h
      · exact List.mem_append_left _ (I.lin x h)
      · exact List.mem_append_right _ h
    · rw [List.map_append]
      exact List.mem_append_left _ h
    · rw [List.map_append]
      exact List.mem_append_right _ List.mem_cons_self
    · simp only [List.length_append, List.length_cons, List.length_nil]
      omega
    · simp only [List.length_append, List.length_cons, List.length_nil]
      omega
    · rw [List.map_append] at h
      rcases List.mem_append.mp h with h | h
      · exact .inl h
      · exact .inr (List.mem_append_right _ h)
theorem WInv.fold {s : List Int} (okL : ∀ L ∈ Ls, Trn n L) (bW : Bits n W) : ∀ {Ms : List (List Int)} {st : WSt}, (∀ L ∈ Ms, L ∈ Ls) → WInv n Ls W st → s ∈ st.1.map (·.1) → WInv n Ls W (Ms.foldl (wPut n s) st) ∧ (∀ x ∈ st.1.map (·.1), x ∈ (Ms.foldl (wPut n s) st).1.map (·.1)) ∧ (∀ L ∈ Ms, ledA n L s ∈ (Ms.foldl (wPut n s) st).1.map (·.1)) ∧ 2 * (Ms.foldl (wPut n s) st).1.length = 2 * st.1.length + 2 * ((Ms.foldl (wPut n s) st).2.length - st.2.length) ∧ st.2.length ≤ (Ms.foldl (wPut n s) st).2.length ∧ (∀ x ∈ (Ms.foldl (wPut n s) st).1.map (·.1), x ∈ st.1.map (·.1) ∨ x ∈ (Ms.foldl (wPut n s) st).2) ∧ ∀ x ∈ st.2, x ∈ (Ms.foldl (wPut n s) st).2
  | [], st, _, I, _ => ⟨I, fun x h => h, fun L h => (nomatch h), by show 2 * st.1.length = _; simp, Nat.le_refl _, fun x h => .inl h, fun x h => h⟩
  | M :: Ms, st, sub, I, hs => by
    obtain ⟨a1, a2, a3, a4, a5, a6, a7⟩ := I.put okL bW hs (sub M List.mem_cons_self)
    obtain ⟨b1, b2, b3, b4, b5, b6, b7⟩ := WInv.fold okL bW (Ms := Ms) (st := wPut n s st M) (fun L h => sub L (List.mem_cons_of_mem _ h)) a1 (a2 s hs)
    refine ⟨b1, fun x h => b2 x (a2 x h), fun L h => ?_, ?_, ?_, fun x h => ?_, fun x h => b7 x (a7 x h)⟩
    · rcases List.mem_cons.mp h with rfl | h
      · exact b2 _ a3
      · exact b3 L h
    · simp only [List.foldl_cons]
      omega
    · simp only [List.foldl_cons]
      omega
    · rcases b6 x h with h | h
      · rcases a6 x h with h | h
        · exact .inl h
        · exact .inr (b7 x h)
      · exact .inr h
theorem winv0 (bW : Bits n W) : WInv n Ls W (wIt n Ls W 0) := ⟨by show [W].Nodup; simp, fun p hp => by
  rw [List.mem_singleton.mp hp]
  exact ⟨.one, ledA_up bW, .one⟩, List.mem_singleton.mpr rfl, fun x h => h, Nat.le_refl _⟩
/-- every answer in hand that waits no more has all that it leads to in hand -/
def WClo (n : Nat) (Ls : List (List Int)) (st : WSt) : Prop := ∀ x ∈ st.1.map (·.1), x ∈ st.2 ∨ ∀ L ∈ Ls, ledA n L x ∈ st.1.map (·.1)
theorem wstep_ok {st : WSt} (okL : ∀ L ∈ Ls, Trn n L) (bW : Bits n W) (I : WInv n Ls W st) (c : WClo n Ls st) : WInv n Ls W (wStep n Ls st) ∧ WClo n Ls (wStep n Ls st) := by
  rcases List.eq_nil_or_concat st.2 with e | ⟨l, s, e⟩
  · have : wStep n Ls st = st := by unfold wStep; rw [e]; rfl
    rw [this]
    exact ⟨I, c⟩
  · rw [List.concat_eq_append] at e
    have es : wStep n Ls st = Ls.foldl (wPut n s) (st.1, l) := by
      unfold wStep
      rw [e, List.getLast?_concat, List.dropLast_concat]
    rw [es]
    have hs : s ∈ st.1.map (·.1) := I.lin s (by rw [e]; exact List.mem_append_right _ List.mem_cons_self)
    have I0 : WInv n Ls W (st.1, l) := ⟨I.nd, I.gen, I.one, fun x h => I.lin x (by rw [e]; exact List.mem_append_left _ h), by have := I.le; rw [e, List.length_append] at this; show l.length ≤ st.1.length; omega⟩
    obtain ⟨b1, b2, b3, b4, b5, b6, b7⟩ := I0.fold okL bW (Ms := Ls) (s := s) (fun L h => h) hs
    refine ⟨b1, fun x hx => ?_⟩
    rcases b6 x hx with h | h
    · rcases c x h with h | h
      · rw [e] at h
        rcases List.mem_append.mp h with h | h
        · exact .inl (b7 x h)
        · rw [List.mem_singleton.mp h]
          exact .inr b3
      · exact .inr fun L hL => b2 _ (h L hL)
    · exact .inl h
theorem wit_ok (okL : ∀ L ∈ Ls, Trn n L) (bW : Bits n W) : ∀ k, WInv n Ls W (wIt n Ls W k) ∧ WClo n Ls (wIt n Ls W k)
  | 0 => ⟨winv0 bW, fun x h => .inl h⟩
  | k + 1 => wstep_ok okL bW (wit_ok okL bW k).1 (wit_ok okL bW k).2
theorem WInv.few {st : WSt} (bW : Bits n W) (I : WInv n Ls W st) : st.1.length ≤ 2 ^ n := by
  have := len_leC I.nd (m := allb n) fun x hx => by
    obtain ⟨p, hp, e⟩ := List.mem_map.mp hx
    rw [← e]
    exact allb_mem ((I.gen p hp).2.2.bits bW)
  rw [List.length_map, allb_two] at this
  exact this
/-- what the ways are -/
structure WaysOk (n : Nat) (Ls : List (List Int)) (W : List Int) (kv : List (List Int × List Int)) : Prop where
  nd : (kv.map (·.1)).Nodup
  gen : ∀ p ∈ kv, Gen n Ls p.2 ∧ ledA n p.2 W = p.1
  mem : ∀ x, x ∈ kv.map (·.1) ↔ KinR n Ls W x
  few : kv.length ≤ 2 ^ n
theorem wIt_ways (okL : ∀ L ∈ Ls, Trn n L) (bW : Bits n W) {k : Nat} (h : (wIt n Ls W k).2 = []) : WaysOk n Ls W (wIt n Ls W k).1 := by
  obtain ⟨I, c⟩ := wit_ok okL bW k
  refine ⟨I.nd, fun p hp => ⟨(I.gen p hp).1, (I.gen p hp).2.1⟩, fun x => ⟨fun hx => ?_, fun hx => ?_⟩, I.few bW⟩
  · obtain ⟨p, hp, e⟩ := List.mem_map.mp hx
    rw [← e]
    exact (I.gen p hp).2.2
  · induction hx with
    | one => exact I.one
    | go _ hL ih =>
      rcases c _ ih with h2 | h2
      · rw [h] at h2; cases h2
      · exact h2 _ hL
end
end Toy

-- part: GC2
namespace Toy
open PySem L2
/-! ### how many turns floors hold -/
theorem look_mem {α : Type} : ∀ {l : List (Int × α)} {k : Int} {x : α}, l.lookup k = some x → (k, x) ∈ l
  | [], _, _, h => by cases h
  | (a, y) :: r, k, x, h => by
    rw [List.lookup_cons] at h
    by_cases e : k = a
    · subst e
      rw [beq_self_eq_true] at h
      rw [← Option.some.inj h]
      exact List.mem_cons_self
    · rw [beq_false_of_ne e] at h
      exact List.mem_cons_of_mem _ (look_mem h)
theorem mem_look {α : Type} : ∀ {l : List (Int × α)} {k : Int} {x : α}, (l.map (·.1)).Nodup → (k, x) ∈ l → l.lookup k = some x
  | [], _, _, _, h => nomatch h
  | (a, y) :: r, k, x, nd, h => by
    obtain ⟨n1, n2⟩ := List.nodup_cons.mp nd
    rw [List.lookup_cons]
    rcases List.mem_cons.mp h with e | h
    · cases e
      rw [beq_self_eq_true]
    · have ne : k ≠ a := fun e => n1 (by rw [← e]; exact List.mem_map.mpr ⟨(k, x), h, rfl⟩)
      rw [beq_false_of_ne ne]
      exact mem_look n2 h
theorem nodup_mapX {α β : Type} {f : α → β} : ∀ {l : List α}, l.Nodup → (∀ x ∈ l, ∀ y ∈ l, f x = f y → x = y) → (l.map f).Nodup
  | [], _, _ => List.nodup_nil
  | a :: r, nd, h => by
    obtain ⟨n1, n2⟩ := List.nodup_cons.mp nd
    refine List.nodup_cons.mpr ⟨fun hm => ?_, nodup_mapX n2 fun x hx y hy => h x (List.mem_cons_of_mem _ hx) y (List.mem_cons_of_mem _ hy)⟩
    obtain ⟨y, hy, e⟩ := List.mem_map.mp hm
    exact n1 (by rw [h a List.mem_cons_self y (List.mem_cons_of_mem _ hy) e.symm]; exact hy)
theorem nodup_flatX {α β : Type} {f : α → List β} : ∀ {l : List α}, l.Nodup → (∀ x ∈ l, (f x).Nodup) → (∀ x ∈ l, ∀ y ∈ l, ∀ z, z ∈ f x → z ∈ f y → x = y) → (l.flatMap f).Nodup
  | [], _, _, _ => List.nodup_nil
  | a :: r, nd, h1, h2 => by
    obtain ⟨n1, n2⟩ := List.nodup_cons.mp nd
    rw [List.flatMap_cons]
    refine List.nodup_append.mpr ⟨h1 a List.mem_cons_self, nodup_flatX n2 (fun x hx => h1 x (List.mem_cons_of_mem _ hx)) (fun x hx y hy => h2 x (List.mem_cons_of_mem _ hx) y (List.mem_cons_of_mem _ hy)), fun z hz w hw e => ?_⟩
    subst e
    obtain ⟨y, hy, hzy⟩ := List.mem_flatMap.mp hw
    exact n1 (by rw [h2 a List.mem_cons_self y (List.mem_cons_of_mem _ hy) z hz hzy]; exact hy)
theorem flat_len {α β : Type} {f : α → List β} {k : Nat} : ∀ {l : List α}, (∀ x ∈ l, (f x).length = k) → (l.flatMap f).length = l.length * k
  | [], _ => by simp
  | a :: r, h => by
    rw [List.flatMap_cons, List.length_append, h a List.mem_cons_self, flat_len fun x hx => h x (List.mem_cons_of_mem _ hx), List.length_cons, Nat.add_mul, Nat.one_mul, Nat.add_comm]
def sizeV : List Lv → Nat
  | [] => 1
  | v :: r => v.gs.length * sizeV r
def KeyNd (lv : List Lv) : Prop := ∀ v ∈ lv, (v.gs.map (·.1)).Nodup
theorem join_inj {n : Nat} {a a' u b : List Int} (ta : Trn n a) (ta' : Trn n a') (tu : Trn n u) (hb : Bk n u b) (e : joined a u = joined a' u) : a = a' := by
  have : joined (joined a u) b = joined (joined a' u) b := by rw [e]
  rw [join_assoc ta tu, join_assoc ta' tu, hb.r tu, join_one ta, join_one ta'] at this
  exact this
theorem count_all {n : Nat} : ∀ {lv : List Lv} {F : List Int}, Full n lv → KeyNd lv → Enough n F lv → (∀ p ∈ F, Lt n p) → (∀ t, GenL n lv t → Keeps F t) → ∃ A : List (List Int), A.Nodup ∧ (∀ t, t ∈ A ↔ GenL n lv t) ∧ A.length = sizeV lv
  | [], F, _, _, _, _, _ => ⟨[up n], List.nodup_cons.mpr ⟨fun h => (nomatch h), List.nodup_nil⟩, fun t => ⟨fun h => List.mem_singleton.mp h, fun h => List.mem_singleton.mpr h⟩, rfl⟩
  | v :: r, F, h, kd, en, hF, gk => by
    have hw := h
    obtain ⟨h1, h2, h3, h4⟩ := h
    have hF2 : ∀ p ∈ v.pt :: F, Lt n p := fun p hp => by rcases List.mem_cons.mp hp with rfl | hp; exact h2.pt; exact hF p hp
    have gk2 : ∀ t, GenL n r t → Keeps (v.pt :: F) t := fun t' g' p hp => by
      rcases List.mem_cons.mp hp with rfl | hp
      · exact (h3 _ g').2
      · exact gk _ (h3 _ g').1 p hp
    obtain ⟨A, nd, mem, len⟩ := count_all h1 (fun w hw => kd w (List.mem_cons_of_mem _ hw)) en.next hF2 gk2
    have kv := kd v List.mem_cons_self
    have way : ∀ z ∈ v.gs, Gen n v.ms z.2 ∧ gL z.2 v.pt = z.1 := fun z hz => h2.way z.1 z.2 (mem_look kv hz)
    have gnd : v.gs.Nodup := by
      have := kv
      unfold List.Nodup at this ⊢
      rw [List.pairwise_map] at this
      exact this.imp fun hne e => hne (by rw [e])
    have tA : ∀ a ∈ A, Trn n a ∧ gL a v.pt = v.pt := fun a ha => ⟨((mem a).mp ha).trn h1, (h3 _ ((mem a).mp ha)).2⟩
    refine ⟨v.gs.flatMap fun z => A.map fun a => joined a z.2, ?_, fun t => ⟨fun ht => ?_, fun g => ?_⟩, ?_⟩
    · refine nodup_flatX gnd (fun z hz => ?_) (fun z hz y hy t ht ht2 => ?_)
      · have tu := (way z hz).1.trn h2.tr
        obtain ⟨m, hb⟩ := back_ex tu
        exact nodup_mapX nd fun a ha a' ha' e => join_inj (tA a ha).1 (tA a' ha').1 tu hb e
      · obtain ⟨a, ha, rfl⟩ := List.mem_map.mp ht
        obtain ⟨a', ha', e⟩ := List.mem_map.mp ht2
        have e1 : gL (joined a z.2) v.pt = z.1 := by rw [gL_joined (tA a ha).1 h2.pt, (tA a ha).2, (way z hz).2]
        have e2 : gL (joined a' y.2) v.pt = y.1 := by rw [gL_joined (tA a' ha').1 h2.pt, (tA a' ha').2, (way y hy).2]
        have e3 : z.1 = y.1 := by rw [← e1, ← e2, e]
        have l1 := mem_look kv (show (z.1, z.2) ∈ v.gs from hz)
        have l2 := mem_look kv (show (y.1, y.2) ∈ v.gs from hy)
        rw [e3, l2] at l1
        exact Prod.ext e3 (Option.some.inj l1).symm
    · obtain ⟨z, hz, hm⟩ := List.mem_flatMap.mp ht
      obtain ⟨a, ha, rfl⟩ := List.mem_map.mp hm
      exact (h3 _ ((mem a).mp ha)).1.prod h2.tr (way z hz).1
    · obtain ⟨u, b, hu, hb, s2⟩ := gen_sift hw en hF gk g
      have gt : Gen n v.ms t := g
      have tt := gt.trn h2.tr
      obtain ⟨gu, eu⟩ := h2.way _ _ hu
      have tu := gu.trn h2.tr
      have tb := hb.trn tu
      have kab : Keeps (v.pt :: F) (joined t b) := fun p hp => by
        rcases List.mem_cons.mp hp with rfl | hp
        · rw [gL_joined tt h2.pt, ← eu, hb.inv _ h2.pt]
        · exact Keeps.join hF tt (gk t g) ((gk u gu).back hF hb) p hp
      have g1 := sift_gen h1 en.next hF2 gk2 (trn_joined tt tb) kab s2
      refine List.mem_flatMap.mpr ⟨_, look_mem hu, List.mem_map.mpr ⟨joined t b, (mem _).mpr g1, ?_⟩⟩
      show joined (joined t b) u = t
      rw [join_assoc tt tb, hb.l tu, join_one tt]
    · rw [flat_len (k := A.length) fun z _ => List.length_map _, len]
      rfl
end Toy

-- part: GC3
namespace Toy
open PySem L2
/-! ### a turn is put into floors -/
def Grow : List Lv → List Lv → Prop
  | [], [] => True
  | v :: r, v' :: r' => v'.pt = v.pt ∧ (∀ g u, v.gs.lookup g = some u → v'.gs.lookup g = some u) ∧ (∀ m ∈ v.ms, m ∈ v'.ms) ∧ Grow r r'
  | _, _ => False
theorem Grow.refl : ∀ lv : List Lv, Grow lv lv
  | [] => trivial
  | v :: r => ⟨rfl, fun _ _ h => h, fun _ h => h, Grow.refl r⟩
theorem Grow.trans : ∀ {a b c : List Lv}, Grow a b → Grow b c → Grow a c
  | [], [], [], _, _ => trivial
  | _ :: _, _ :: _, _ :: _, ⟨e1, l1, m1, g1⟩, ⟨e2, l2, m2, g2⟩ => ⟨e2.trans e1, fun g u h => l2 g u (l1 g u h), fun m h => m2 m (m1 m h), Grow.trans g1 g2⟩
  | [], [], _ :: _, _, h => h.elim
  | [], _ :: _, _, h, _ => h.elim
  | _ :: _, [], _, h, _ => h.elim
  | _ :: _, _ :: _, [], _, h => h.elim
theorem Sift.grow {n : Nat} : ∀ {lv lv' : List Lv}, Grow lv lv' → ∀ {t : List Int}, Sift n lv t → Sift n lv' t
  | [], [], _, _, _ => trivial
  | v :: r, v' :: r', ⟨e, l, _, g⟩, t, ⟨u, b, hu, hb, s⟩ => ⟨u, b, by rw [e]; exact l _ _ hu, hb, Sift.grow g s⟩
  | [], _ :: _, h, _, _ => h.elim
  | _ :: _, [], h, _, _ => h.elim
theorem Grow.enough {n : Nat} {F : List Int} {lv lv' : List Lv} (g : Grow lv lv') (h : Enough n F lv) : Enough n F lv' := fun t ht k f => h t ht k (by
  have key : ∀ {lv lv' : List Lv}, Grow lv lv' → (∀ v ∈ lv', gL t v.pt = v.pt) → ∀ v ∈ lv, gL t v.pt = v.pt := by
    intro lv
    induction lv with
    | nil => exact fun _ _ v hv => nomatch hv
    | cons v r ih =>
      intro lv' g f w hw
      cases lv' with
      | nil => exact g.elim
      | cons v' r' =>
        rcases List.mem_cons.mp hw with rfl | hw
        · have := f v' List.mem_cons_self
          rw [g.1] at this
          exact this
        · exact ih g.2.2.2 (fun x hx => f x (List.mem_cons_of_mem _ hx)) w hw
  exact key g f)
structure PutPost (n : Nat) (lv lv' : List Lv) (x : List Int) : Prop where
  full : Full n lv'
  grow : Grow lv lv'
  kd : KeyNd lv'
  goes : Sift n lv' x
  gen : ∀ T, (∀ m ∈ T, Trn n m) → (∀ t, GenL n lv t → Gen n T t) → Gen n T x → ∀ t, GenL n lv' t → Gen n T t
  keep : ∀ p, Lt n p → (∀ t, GenL n lv t → gL t p = p) → gL x p = p → ∀ t, GenL n lv' t → gL t p = p
theorem PutPost.same {n : Nat} {lv : List Lv} {x : List Int} (f : Full n lv) (k : KeyNd lv) (s : Sift n lv x) : PutPost n lv lv x := ⟨f, Grow.refl lv, k, s, fun _ _ h _ => h, fun _ _ h _ => h⟩
/-- a floor and those below it, while pairs are left over -/
structure Pend (n : Nat) (v : Lv) (r : List Lv) (left : List (Int × List Int)) : Prop where
  full : Full n r
  kd : KeyNd (v :: r)
  ok : LvOk n v
  down : ∀ t, GenL n r t → Gen n v.ms t ∧ gL t v.pt = v.pt
  on : ∀ g u, v.gs.lookup g = some u → ∀ m ∈ v.ms, (g, m) ∈ left ∨ ∃ u' b, v.gs.lookup (gL m g) = some u' ∧ Bk n u' b ∧ Sift n r (joined (joined u m) b)
  lf : ∀ g m, (g, m) ∈ left → m ∈ v.ms ∧ ∃ u, v.gs.lookup g = some u
theorem Gen.more {n : Nat} {S T : List (List Int)} (h : ∀ m ∈ S, m ∈ T) {a : List Int} (g : Gen n S a) : Gen n T a := by
  induction g with
  | one => exact .one
  | mul _ hm ih => exact .mul ih (h _ hm)
/-- the turn is a new maker: it is to be led on from everywhere -/
theorem Pend.start {n : Nat} {v : Lv} {r : List Lv} (h : Full n (v :: r)) (k : KeyNd (v :: r)) {t : List Int} (ht : Trn n t) : Pend n ⟨v.pt, v.gs, v.ms ++ [t]⟩ r (v.gs.map fun z => (z.1, t)) := by
  obtain ⟨h1, h2, h3, h4⟩ := h
  have up' : ∀ m ∈ v.ms, m ∈ v.ms ++ [t] := fun m hm => List.mem_append_left _ hm
  refine ⟨h1, fun w hw => ?_, ⟨h2.pt, fun m hm => ?_, h2.one, fun g u hu => ⟨(h2.way g u hu).1.more up', (h2.way g u hu).2⟩⟩, fun t' g => ⟨(h3 t' g).1.more up', (h3 t' g).2⟩, fun g u hu m hm => ?_, fun g m hgm => ?_⟩
  · rcases List.mem_cons.mp hw with rfl | hw
    · exact k v List.mem_cons_self
    · exact k w (List.mem_cons_of_mem _ hw)
  · rcases List.mem_append.mp hm with hm | hm
    · exact h2.tr m hm
    · rw [List.mem_singleton.mp hm]; exact ht
  · rcases List.mem_append.mp hm with hm | hm
    · exact .inr (h4 g u hu m hm)
    · rw [List.mem_singleton.mp hm]
      exact .inl (List.mem_map.mpr ⟨(g, u), look_mem hu, rfl⟩)
  · obtain ⟨z, hz, e⟩ := List.mem_map.mp hgm
    cases e
    exact ⟨List.mem_append_right _ List.mem_cons_self, z.2, mem_look (k v List.mem_cons_self) hz⟩
/-- a pair that leads to a known goal: what is over goes below -/
theorem Pend.known {n : Nat} {v : Lv} {r r' : List Lv} {left : List (Int × List Int)} {g : Int} {m u u' b : List Int} (P : Pend n v r (left ++ [(g, m)])) (hu : v.gs.lookup g = some u) (hu' : v.gs.lookup (gL m g) = some u') (hb : Bk n u' b) (q : PutPost n r r' (joined (joined u m) b)) : Pend n v r' left := by
  obtain ⟨hm, _⟩ := P.lf g m (List.mem_append_right _ List.mem_cons_self)
  obtain ⟨gu, eu⟩ := P.ok.way _ _ hu
  obtain ⟨gu', eu'⟩ := P.ok.way _ _ hu'
  have tu := gu.trn P.ok.tr
  have tm := P.ok.tr m hm
  have tu' := gu'.trn P.ok.tr
  have gx : Gen n v.ms (joined (joined u m) b) := (gu.mul hm).prod P.ok.tr (gu'.back P.ok.tr hb)
  have kx : gL (joined (joined u m) b) v.pt = v.pt := by rw [gL_joined (trn_joined tu tm) P.ok.pt, gL_joined tu P.ok.pt, eu, ← eu', hb.inv _ P.ok.pt]
  refine ⟨q.full, fun w hw => ?_, P.ok, fun t ht => ⟨q.gen v.ms P.ok.tr (fun t g => (P.down t g).1) gx t ht, q.keep v.pt P.ok.pt (fun t g => (P.down t g).2) kx t ht⟩, fun g2 u2 hu2 m2 hm2 => ?_, fun g2 m2 h2 => P.lf g2 m2 (List.mem_append_left _ h2)⟩
  · rcases List.mem_cons.mp hw with rfl | hw
    · exact P.kd w List.mem_cons_self
    · exact q.kd w hw
  · rcases P.on g2 u2 hu2 m2 hm2 with h | ⟨w, c, h1, h2, h3⟩
    · rcases List.mem_append.mp h with h | h
      · exact .inl h
      · have e := List.mem_singleton.mp h
        cases e
        rw [hu] at hu2
        cases hu2
        exact .inr ⟨u', b, hu', hb, q.goes⟩
    · exact .inr ⟨w, c, h1, h2, h3.grow q.grow⟩
/-- a pair that leads to a new goal -/
theorem Pend.fresh {n : Nat} {v : Lv} {r : List Lv} {left : List (Int × List Int)} {g : Int} {m u : List Int} (P : Pend n v r (left ++ [(g, m)])) (hu : v.gs.lookup g = some u) (hn : v.gs.lookup (gL m g) = none) : Pend n ⟨v.pt, v.gs ++ [(gL m g, joined u m)], v.ms⟩ r (left ++ v.ms.map fun m' => (gL m g, m')) := by
  obtain ⟨hm, _⟩ := P.lf g m (List.mem_append_right _ List.mem_cons_self)
  obtain ⟨gu, eu⟩ := P.ok.way _ _ hu
  have tu := gu.trn P.ok.tr
  have tm := P.ok.tr m hm
  have gx : Gen n v.ms (joined u m) := gu.mul hm
  have ex : gL (joined u m) v.pt = gL m g := by rw [gL_joined tu P.ok.pt, eu]
  have old : ∀ k w, v.gs.lookup k = some w → (v.gs ++ [(gL m g, joined u m)]).lookup k = some w := fun k w h => by rw [List.lookup_append, h]; rfl
  have kn : gL m g ∉ v.gs.map (·.1) := fun h => by
    obtain ⟨z, hz, e⟩ := List.mem_map.mp h
    have := mem_look (P.kd v List.mem_cons_self) (show (z.1, z.2) ∈ v.gs from hz)
    rw [e, hn] at this
    cases this
  have both : ∀ k w, (v.gs ++ [(gL m g, joined u m)]).lookup k = some w → v.gs.lookup k = some w ∨ (k = gL m g ∧ w = joined u m) := fun k w h => by
    rw [List.lookup_append] at h
    cases e : v.gs.lookup k with
    | some w' => rw [e] at h; exact .inl h
    | none =>
      rw [e] at h
      have h : List.lookup k [(gL m g, joined u m)] = some w := h
      have := List.mem_singleton.mp (look_mem h)
      cases this
      exact .inr ⟨rfl, rfl⟩
  have self : (v.gs ++ [(gL m g, joined u m)]).lookup (gL m g) = some (joined u m) := by
    rw [List.lookup_append, hn]
    show List.lookup (gL m g) [(gL m g, joined u m)] = _
    rw [List.lookup_cons, beq_self_eq_true]
  refine ⟨P.full, fun w hw => ?_, ⟨P.ok.pt, P.ok.tr, old _ _ P.ok.one, fun k w hk => ?_⟩, P.down, fun k w hk m2 hm2 => ?_, fun k m2 h2 => ?_⟩
  · rcases List.mem_cons.mp hw with rfl | hw
    · show ((v.gs ++ [(gL m g, joined u m)]).map (·.1)).Nodup
      rw [List.map_append]
      refine List.nodup_append.mpr ⟨P.kd v List.mem_cons_self, List.nodup_cons.mpr ⟨fun h => (nomatch h), List.nodup_nil⟩, fun a ha c hc e => ?_⟩
      have := List.mem_singleton.mp hc
      subst e
      have : a = gL m g := this
      rw [this] at ha
      exact kn ha
    · exact P.kd w (List.mem_cons_of_mem _ hw)
  · rcases both k w hk with h | ⟨rfl, rfl⟩
    · exact P.ok.way k w h
    · exact ⟨gx, ex⟩
  · rcases both k w hk with h | ⟨rfl, rfl⟩
    · have hkw := h
      rcases P.on k w h m2 hm2 with h | ⟨w', c, h1, h2, h3⟩
      · rcases List.mem_append.mp h with h | h
        · exact .inl (List.mem_append_left _ h)
        · have e := List.mem_singleton.mp h
          cases e
          obtain rfl : u = w := by
            have z := hu.symm.trans hkw
            exact Option.some.inj z
          have tx := trn_joined tu tm
          obtain ⟨k, hb⟩ := back_ex tx
          refine .inr ⟨joined u m, itUp (joined u m) n k, self, hb, ?_⟩
          rw [hb.r tx]
          exact sift_one P.full
      · exact .inr ⟨w', c, old _ _ h1, h2, h3⟩
    · exact .inl (List.mem_append_right _ (List.mem_map.mpr ⟨m2, hm2, rfl⟩))
  · rcases List.mem_append.mp h2 with h2 | h2
    · obtain ⟨a, w, hw⟩ := P.lf k m2 (List.mem_append_left _ h2)
      exact ⟨a, w, old _ _ hw⟩
    · obtain ⟨m', hm', e⟩ := List.mem_map.mp h2
      cases e
      exact ⟨hm', _, self⟩
end Toy

-- part: GC4
namespace Toy
open PySem L2
theorem grow_start {v : Lv} {r : List Lv} {t : List Int} : Grow (v :: r) (⟨v.pt, v.gs, v.ms ++ [t]⟩ :: r) := ⟨rfl, fun _ _ h => h, fun _ h => List.mem_append_left _ h, Grow.refl r⟩
theorem grow_below {v : Lv} {r r' : List Lv} (g : Grow r r') : Grow (v :: r) (v :: r') := ⟨rfl, fun _ _ h => h, fun _ h => h, g⟩
theorem grow_fresh {v : Lv} {r : List Lv} {g : Int} {w : List Int} : Grow (v :: r) (⟨v.pt, v.gs ++ [(g, w)], v.ms⟩ :: r) := ⟨rfl, fun k u h => by rw [List.lookup_append, h]; rfl, fun _ h => h, Grow.refl r⟩
/-- no pair is left -/
theorem Pend.whole {n : Nat} {v : Lv} {r : List Lv} (P : Pend n v r []) : Full n (v :: r) := ⟨P.full, P.ok, P.down, fun g u hu m hm => (P.on g u hu m hm).elim (fun h => nomatch h) id⟩
theorem Pend.done {n : Nat} {F : List Int} {v v0 : Lv} {r r0 : List Lv} {t : List Int} (P : Pend n v r []) (g : Grow (v0 :: r0) (v :: r)) (em : v.ms = v0.ms ++ [t]) (fl : Full n (v0 :: r0)) (ht : Trn n t) (en : Enough n F (v0 :: r0)) (hF : ∀ p ∈ F, Lt n p) (gk : ∀ t', GenL n (v0 :: r0) t' → Keeps F t') (kt : Keeps F t) : PutPost n (v0 :: r0) (v :: r) t := by
  have w := P.whole
  have tr0 := fl.2.1.tr
  have hm : ∀ m ∈ v.ms, m ∈ v0.ms ∨ m = t := fun m hm => by
    rw [em] at hm
    rcases List.mem_append.mp hm with h | h
    · exact .inl h
    · exact .inr (List.mem_singleton.mp h)
  have tm : t ∈ v.ms := by rw [em]; exact List.mem_append_right _ List.mem_cons_self
  have gk' : ∀ t', GenL n (v :: r) t' → Keeps F t' := fun t' h => Gen.keeps P.ok.tr hF (fun m hm' => by
    rcases hm m hm' with h | rfl
    · exact gk m (Gen.of tr0 h)
    · exact kt) h
  refine ⟨w, g, P.kd, gen_sift w (g.enough en) hF gk' (show Gen n v.ms t from Gen.of P.ok.tr tm), fun T hT h1 h2 t' h => ?_, fun p hp h1 h2 t' h => ?_⟩
  · exact Gen.into hT (fun m hm' => by
      rcases hm m hm' with h | rfl
      · exact h1 m (Gen.of tr0 h)
      · exact h2) (show Gen n v.ms t' from h)
  · have := Gen.keeps (F := [p]) P.ok.tr (fun q hq => by rw [List.mem_singleton.mp hq]; exact hp) (fun m hm' q hq => by
      rw [List.mem_singleton.mp hq]
      rcases hm m hm' with h | rfl
      · exact h1 m (Gen.of tr0 h)
      · exact h2) (show Gen n v.ms t' from h)
    exact this p List.mem_cons_self
/-! ### a new maker makes at least twice as many -/
theorem twice {n : Nat} {S : List (List Int)} (hS : ∀ m ∈ S, Trn n m) {t : List Int} (ht : Trn n t) (no : ¬ Gen n S t) {A : List (List Int)} (nd : A.Nodup) (hA : ∀ a ∈ A, Gen n S a) : (A ++ A.map fun a => joined a t).Nodup ∧ ∀ a ∈ A ++ A.map (fun a => joined a t), Gen n (S ++ [t]) a := by
  have up' : ∀ m ∈ S, m ∈ S ++ [t] := fun m hm => List.mem_append_left _ hm
  obtain ⟨k, hb⟩ := back_ex ht
  refine ⟨List.nodup_append.mpr ⟨nd, nodup_mapX nd fun a ha b hb' e => join_inj ((hA a ha).trn hS) ((hA b hb').trn hS) ht hb e, fun a ha b hb' e => ?_⟩, fun a ha => ?_⟩
  · subst e
    obtain ⟨c, hc, ec⟩ := List.mem_map.mp hb'
    apply no
    have tc := (hA c hc).trn hS
    obtain ⟨k2, hc2⟩ := back_ex tc
    have : joined (itUp c n k2) a = t := by rw [← ec, ← join_assoc (hc2.trn tc) tc, hc2.l tc, one_join ht]
    rw [← this]
    exact ((hA c hc).back hS hc2).prod hS (hA a ha)
  · rcases List.mem_append.mp ha with h | h
    · exact (hA a h).more up'
    · obtain ⟨c, hc, rfl⟩ := List.mem_map.mp h
      exact ((hA c hc).more up').mul (List.mem_append_right _ List.mem_cons_self)
/-- makers of which none is made by those before it -/
inductive Strong (n : Nat) : List (List Int) → Prop where
  | nil : Strong n []
  | snoc {S : List (List Int)} {t : List Int} : Strong n S → Trn n t → ¬ Gen n S t → Strong n (S ++ [t])
theorem Strong.trn {n : Nat} {S : List (List Int)} (h : Strong n S) : ∀ m ∈ S, Trn n m := by
  induction h with
  | nil => exact fun m hm => nomatch hm
  | snoc _ ht _ ih =>
    intro m hm
    rcases List.mem_append.mp hm with h | h
    · exact ih m h
    · rw [List.mem_singleton.mp h]; exact ht
theorem Strong.many {n : Nat} {S : List (List Int)} (h : Strong n S) : ∃ A : List (List Int), A.Nodup ∧ (∀ a ∈ A, Gen n S a) ∧ A.length = 2 ^ S.length := by
  induction h with
  | nil => exact ⟨[up n], List.nodup_cons.mpr ⟨fun h => (nomatch h), List.nodup_nil⟩, fun a ha => by rw [List.mem_singleton.mp ha]; exact .one, rfl⟩
  | @snoc S t hs ht no ih =>
    obtain ⟨A, nd, hA, la⟩ := ih
    obtain ⟨h1, h2⟩ := twice hs.trn ht no nd hA
    exact ⟨_, h1, h2, by rw [List.length_append, List.length_map, List.length_append, la]; show 2 ^ S.length + 2 ^ S.length = 2 ^ (S.length + 1); rw [Nat.pow_succ]; omega⟩
/-- all rows of n letters -/
def rowsOf (U : List Int) : Nat → List (List Int)
  | 0 => [[]]
  | k + 1 => U.flatMap fun x => (rowsOf U k).map fun r => x :: r
theorem rowsOf_len (U : List Int) : ∀ k, (rowsOf U k).length = U.length ^ k
  | 0 => rfl
  | k + 1 => by
    show (U.flatMap fun x => (rowsOf U k).map fun r => x :: r).length = _
    rw [flat_len (k := (rowsOf U k).length) fun x _ => List.length_map _, rowsOf_len U k, Nat.pow_succ, Nat.mul_comm]
theorem rowsOf_mem {U : List Int} : ∀ {l : List Int}, (∀ x ∈ l, x ∈ U) → l ∈ rowsOf U l.length
  | [], _ => List.mem_cons_self
  | x :: r, h => List.mem_flatMap.mpr ⟨x, h x List.mem_cons_self, List.mem_map.mpr ⟨r, rowsOf_mem fun y hy => h y (List.mem_cons_of_mem _ hy), rfl⟩⟩
/-- so there are few strong makers -/
theorem Strong.few {n : Nat} {S : List (List Int)} (h : Strong n S) : 2 ^ S.length ≤ (2 * n) ^ n := by
  obtain ⟨A, nd, hA, la⟩ := h.many
  have := len_leC nd (m := rowsOf (lettersU n) n) fun a ha => by
    have t := (hA a ha).trn h.trn
    have e := rowsOf_mem (U := lettersU n) (l := a) fun x hx => letters_mem (t.bd hx)
    rw [t.len] at e
    exact e
  rw [la, rowsOf_len, letters_len] at this
  exact this
theorem Strong.len12 {n : Nat} {S : List (List Int)} (h : Strong n S) (h4 : n ≤ 400) : S.length ≤ 4000 := by
  have h1 := h.few
  have h2 : (2 * n) ^ n ≤ (2 ^ 10) ^ n := Nat.pow_le_pow_left (by omega) n
  rw [← Nat.pow_mul] at h2
  have h3 : 2 ^ S.length ≤ 2 ^ (10 * n) := Nat.le_trans h1 h2
  have h4 := (Nat.pow_le_pow_iff_right (a := 2) (by decide)).mp h3
  omega
/-- a turn that does not go down is a strong new maker -/
theorem Strong.put {n : Nat} {F : List Int} {v : Lv} {r : List Lv} (s : Strong n v.ms) (fl : Full n (v :: r)) (en : Enough n F (v :: r)) (hF : ∀ p ∈ F, Lt n p) (gk : ∀ t', GenL n (v :: r) t' → Keeps F t') {t : List Int} (ht : Trn n t) (no : ¬ Sift n (v :: r) t) : Strong n (v.ms ++ [t]) :=
  .snoc s ht fun g => no (gen_sift fl en hF gk g)
end Toy

-- part: GC5
namespace Toy
open PySem L2
/-! ### floors of makers put in one after another -/
def initV (n : Nat) (ls : List Int) : List Lv := ls.map fun p => ⟨p, [(p, up n)], []⟩
theorem gen_nil {n : Nat} {t : List Int} (h : Gen n [] t) : t = up n := by
  cases h with
  | one => rfl
  | mul _ hm => exact nomatch hm
theorem init_gen {n : Nat} {ls : List Int} {t : List Int} (h : GenL n (initV n ls) t) : t = up n := by
  cases ls with
  | nil => exact h
  | cons p r => exact gen_nil h
theorem init_full {n : Nat} : ∀ {ls : List Int}, (∀ p ∈ ls, Lt n p) → Full n (initV n ls)
  | [], _ => trivial
  | p :: r, h => by
    have hp := h p List.mem_cons_self
    refine ⟨init_full fun q hq => h q (List.mem_cons_of_mem _ hq), ⟨hp, fun m hm => (nomatch hm), ?_, fun g u hu => ?_⟩, fun t ht => ?_, fun g u hu m hm => (nomatch hm)⟩
    · show List.lookup p [(p, up n)] = _
      rw [List.lookup_cons, beq_self_eq_true]
    · have := List.mem_singleton.mp (look_mem (show List.lookup g [(p, up n)] = some u from hu))
      cases this
      exact ⟨.one, gL_up hp⟩
    · rw [init_gen ht]
      exact ⟨.one, gL_up hp⟩
theorem init_kd {n : Nat} {ls : List Int} : KeyNd (initV n ls) := fun v hv => by
  obtain ⟨p, _, rfl⟩ := List.mem_map.mp hv
  exact List.nodup_cons.mpr ⟨fun h => (nomatch h), List.nodup_nil⟩
/-- the letters name all truths -/
def AllT (n : Nat) (ls : List Int) : Prop := ∀ k, 1 ≤ k → k ≤ (n : Int) → k ∈ ls.map absI
theorem enough_of {n : Nat} {lv : List Lv} (hl : ∀ v ∈ lv, Lt n v.pt) (h : AllT n (lv.map (·.pt))) : Enough n [] lv := fun t ht _ f => ext_gL ht.len (up_len n) fun l hl' => by
  rw [gL_up hl']
  obtain ⟨p, hp, e⟩ := List.mem_map.mp (h (absI l) hl'.1 hl'.2)
  obtain ⟨v, hv, rfl⟩ := List.mem_map.mp hp
  have fv := f v hv
  have el : l = v.pt ∨ l = -v.pt := by unfold absI at e; split at e <;> split at e <;> omega
  rcases el with rfl | rfl
  · exact fv
  · rw [gL_neg t (hl v hv).1, fv]
structure ChOk (n : Nat) (ls : List Int) (lv : List Lv) (S : List (List Int)) : Prop where
  full : Full n lv
  kd : KeyNd lv
  pts : lv.map (·.pt) = ls
  gen : ∀ t, GenL n lv t ↔ Gen n S t
theorem full_pt {n : Nat} : ∀ {lv : List Lv}, Full n lv → ∀ v ∈ lv, Lt n v.pt
  | [], _, v, hv => nomatch hv
  | w :: r, h, v, hv => by
    rcases List.mem_cons.mp hv with rfl | hv
    · exact h.2.1.pt
    · exact full_pt h.1 v hv
theorem ChOk.enough {n : Nat} {ls : List Int} {lv : List Lv} {S : List (List Int)} (o : ChOk n ls lv S) (h : AllT n ls) : Enough n [] lv := enough_of (full_pt o.full) (by rw [o.pts]; exact h)
theorem ChOk.init {n : Nat} {ls : List Int} (h : ∀ p ∈ ls, Lt n p) : ChOk n ls (initV n ls) [] := ⟨init_full h, init_kd, by
  unfold initV
  rw [List.map_map]
  exact (List.map_congr_left fun _ _ => rfl).trans (List.map_id _), fun t => ⟨fun g => by rw [init_gen g]; exact .one, fun g => by
    rw [gen_nil g]
    cases ls with
    | nil => rfl
    | cons p r => exact .one⟩⟩
theorem Grow.pts : ∀ {a b : List Lv}, Grow a b → b.map (·.pt) = a.map (·.pt)
  | [], [], _ => rfl
  | v :: r, v' :: r', ⟨e, _, _, g⟩ => by rw [List.map_cons, List.map_cons, e, Grow.pts g]
  | [], _ :: _, h => h.elim
  | _ :: _, [], h => h.elim
theorem Grow.gen {n : Nat} : ∀ {a b : List Lv}, Grow a b → ∀ {t : List Int}, GenL n a t → GenL n b t
  | [], [], _, _, h => h
  | v :: r, v' :: r', ⟨_, _, m, _⟩, t, h => Gen.more m (show Gen n v.ms t from h)
  | [], _ :: _, h, _, _ => h.elim
  | _ :: _, [], h, _, _ => h.elim
theorem ChOk.put {n : Nat} {ls : List Int} {lv lv' : List Lv} {S : List (List Int)} {x : List Int} (o : ChOk n ls lv S) (hl : AllT n ls) (hS : ∀ m ∈ S, Trn n m) (hx : Trn n x) (q : PutPost n lv lv' x) : ChOk n ls lv' (S ++ [x]) := by
  have hSx : ∀ m ∈ S ++ [x], Trn n m := fun m hm => by
    rcases List.mem_append.mp hm with h | h
    · exact hS m h
    · rw [List.mem_singleton.mp h]; exact hx
  have en' := q.grow.enough (o.enough hl)
  refine ⟨q.full, q.kd, q.grow.pts.trans o.pts, fun t => ⟨fun g => ?_, fun g => ?_⟩⟩
  · exact q.gen (S ++ [x]) hSx (fun t g => ((o.gen t).mp g).more fun m hm => List.mem_append_left _ hm) (Gen.of hSx (List.mem_append_right _ List.mem_cons_self)) t g
  · have gx : GenL n lv' x := sift_gen q.full en' (fun p hp => nomatch hp) (fun _ _ p hp => nomatch hp) hx (fun p hp => nomatch hp) q.goes
    induction g with
    | one =>
      cases lv' with
      | nil => rfl
      | cons v r => exact .one
    | @mul a m _ hm ih =>
      refine GenL.prod q.full ih ?_
      rcases List.mem_append.mp hm with h | h
      · exact q.grow.gen ((o.gen m).mpr (Gen.of hS h))
      · rw [List.mem_singleton.mp h]; exact gx
/-- what a whole chain tells -/
theorem ChOk.holds {n : Nat} {ls : List Int} {lv : List Lv} {S : List (List Int)} (o : ChOk n ls lv S) (hl : AllT n ls) {t : List Int} (ht : Trn n t) : Sift n lv t ↔ Gen n S t := by
  have en := o.enough hl
  rw [← o.gen t]
  exact ⟨fun s => sift_gen o.full en (fun p hp => nomatch hp) (fun _ _ p hp => nomatch hp) ht (fun p hp => nomatch hp) s, fun g => gen_sift o.full en (fun p hp => nomatch hp) (fun _ _ p hp => nomatch hp) g⟩
theorem ChOk.size {n : Nat} {ls : List Int} {lv : List Lv} {S : List (List Int)} (o : ChOk n ls lv S) (hl : AllT n ls) {A : List (List Int)} (nd : A.Nodup) (hA : ∀ t, t ∈ A ↔ Gen n S t) : sizeV lv = A.length := by
  obtain ⟨B, ndB, hB, lB⟩ := count_all o.full o.kd (o.enough hl) (fun p hp => nomatch hp) (fun _ _ p hp => nomatch hp)
  rw [← lB]
  have h1 := len_leC ndB (m := A) fun t h => (hA t).mpr ((o.gen t).mp ((hB t).mp h))
  have h2 := len_leC nd (m := B) fun t h => (hB t).mpr ((o.gen t).mpr ((hA t).mp h))
  omega
end Toy

-- part: KC1
namespace Toy
open PySem L2
section
variable {P : Program} {w : World} {K : PySem.W.Frag} {mg : Str → Option Value} {base : Heap}
/-! ### a chain as it stands -/
def chF (la ga wa ma : Addr) : List (Str × V) := [("letters", .ref la), ("goals", .ref ga), ("ways_back", .ref wa), ("_made_by", .ref ma)]
/-- one floor: its goals with their ways, their ways back as tables, its makers -/
structure FlAt (H : Hp) (n : Nat) (g b m : Addr) (v : Lv) : Prop where
  go : ∃ kvs : List (Key × V), H g = some (.dK kvs) ∧ Paired (fun (kv : Key × V) (z : Int × List Int) => kv.1 = .inl z.1 ∧ ∃ a, kv.2 = .ref a ∧ H a = some (.tup (z.2.map V.int))) kvs v.gs
  bk : ∃ kvs : List (Key × V), H b = some (.dK kvs) ∧ kvs.length ≤ v.gs.length ∧ ∀ k u, v.gs.lookup k = some u → ∃ a c, valV kvs (.inl k) = some (.ref a) ∧ Bk n u c ∧ H a = some (.tup ((tabL c).map V.int))
  ms : ∃ xs : List Addr, H m = some (.lst (xs.map V.ref)) ∧ TupsAt H xs v.ms
structure ChAt (C : Addr) (H : Hp) (n : Nat) (c la ga wa ma : Addr) (gs bs ms : List Addr) (lv : List Lv) : Prop where
  ob : ∃ dx, H c = some (.ins C dx (chF la ga wa ma))
  la : H la = some (.lst ((lv.map (·.pt)).map V.int))
  ga : H ga = some (.lst (gs.map V.ref))
  wa : H wa = some (.lst (bs.map V.ref))
  ma : H ma = some (.lst (ms.map V.ref))
  lg : gs.length = lv.length
  lb : bs.length = lv.length
  lm : ms.length = lv.length
  fl : ∀ (i : Nat) (g b m : Addr) (v : Lv), gs[i]? = some g → bs[i]? = some b → ms[i]? = some m → lv[i]? = some v → FlAt H n g b m v
theorem paired_look {H : Hp} : ∀ {kvs : List (Key × V)} {gs : List (Int × List Int)}, Paired (fun (kv : Key × V) (z : Int × List Int) => kv.1 = .inl z.1 ∧ ∃ a, kv.2 = .ref a ∧ H a = some (.tup (z.2.map V.int))) kvs gs → ∀ k, (gs.lookup k = none ∧ valV kvs (.inl k) = none) ∨ ∃ u a, gs.lookup k = some u ∧ valV kvs (.inl k) = some (.ref a) ∧ H a = some (.tup (u.map V.int))
  | _, _, .nil, k => .inl ⟨rfl, rfl⟩
  | _, _, .cons (a := kv) (b := z) h t, k => by
    obtain ⟨e, a, e2, ha⟩ := h
    obtain ⟨g, u⟩ := z
    rw [List.lookup_cons]
    by_cases c : k = g
    · subst c
      rw [beq_self_eq_true]
      exact .inr ⟨u, a, rfl, by rw [valV_pos e, e2], ha⟩
    · rw [beq_false_of_ne c, valV_neg (fun z => c (Sum.inl.inj (z.symm.trans e)))]
      exact paired_look t k
theorem FlAt.same {H H' : Hp} {n : Nat} {g b m : Addr} {v : Lv} (e : Same H H') (h : FlAt H n g b m v) : FlAt H' n g b m v := by
  obtain ⟨⟨k1, h1, p1⟩, ⟨k2, h2, l2, p2⟩, ⟨xs, h3, t3⟩⟩ := h
  exact ⟨⟨k1, e _ _ h1, Paired.mapP p1 fun kv z ⟨q1, a, q2, q3⟩ => ⟨q1, a, q2, e _ _ q3⟩⟩, ⟨k2, e _ _ h2, l2, fun k u hk => by obtain ⟨a, c, q1, q2, q3⟩ := p2 k u hk; exact ⟨a, c, q1, q2, e _ _ q3⟩⟩, ⟨xs, e _ _ h3, t3.same e⟩⟩
theorem ChAt.same {C : Addr} {H H' : Hp} {n : Nat} {c la ga wa ma : Addr} {gs bs ms : List Addr} {lv : List Lv} (e : Same H H') (h : ChAt C H n c la ga wa ma gs bs ms lv) : ChAt C H' n c la ga wa ma gs bs ms lv := by
  obtain ⟨⟨dx, h0⟩, h1, h2, h3, h4, l1, l2, l3, f⟩ := h
  exact ⟨⟨dx, e _ _ h0⟩, e _ _ h1, e _ _ h2, e _ _ h3, e _ _ h4, l1, l2, l3, fun i g b m v a1 a2 a3 a4 => (f i g b m v a1 a2 a3 a4).same e⟩
theorem full_drop {n : Nat} : ∀ {lv : List Lv}, Full n lv → ∀ k, Full n (lv.drop k)
  | lv, h, 0 => h
  | [], _, k + 1 => trivial
  | v :: r, h, k + 1 => full_drop (lv := r) h.1 k
/-! ### Chain.holds -/
abbrev sHd : Stmt := m_Chain_holds
abbrev nHd : List Str := ["self", "turn", "at", "place", "goal"]
theorem scHd : FnScope nHd ["self", "turn", "at"] (defScope sHd) := ⟨rfl, rfl, rfl, by decide +kernel, rfl, by decide +kernel, by decide +kernel⟩
def spHd (K : PySem.W.Frag) (C : Addr) : Sp := fun vs H Q _ => ∃ (c la ga wa ma : Addr) (gs bs ms : List Addr) (lv : List Lv) (n : Nat) (a : Addr) (L : List Int) (i : Nat), vs = [.ref c, .ref a, .int (i : Int)] ∧ ChAt C H n c la ga wa ma gs bs ms lv ∧ Full n (lv.drop i) ∧ SqT K H a (L.map V.int) ∧ Trn n L ∧ n ≤ 400 ∧ i ≤ lv.length ∧ lv.length ≤ 400 ∧ ∀ (b : Bool) (H' : Hp), (b = true ↔ Sift n (lv.drop i) L) → Same H H' → Q (.bl b) H'
theorem ok_hd {f fG fO C : Addr} {fd fdG fdO : FuncData} (F : Fun K "holds" "Chain.holds" sHd f fd) (B : Bl mg) (cl : Cls K C) (na1 : NoAttr K C "letters") (na2 : NoAttr K C "goals") (na3 : NoAttr K C "ways_back") (GO : Df K mg "goes" sGoes ["turn", "letter"] fG fdG) (GGo : FnOk P w K mg base CX0 1 fG fdG ["turn", "letter"] (spGoes K)) (ON : Df K mg "led_on" sOn ["turn", "table"] fO fdO) (GOn : FnOk P w K mg base CX0 1 fO fdO ["turn", "table"] (spOn K)) : FnOk P w K mg base CX0 2 f fd ["self", "turn", "at"] (spHd K C) := by
  refine F.ok scHd (fun vs H Q E h => ?_) (fun cdv A outer s H vs Q E hr h => ?_)
  · obtain ⟨c, la, ga, wa, ma, gs, bs, ms, lv, n, a, L, i, rfl, _⟩ := h
    rfl
  · obtain ⟨c, la, ga, wa, ma, gs, bs, ms, lv, n, a, L, i, rfl, ch, fu, hs, t, n4, il, l4, q⟩ := h
    have hu := hu_of hr
    refine ⟨_, pss_cons (ps_for PassesOwn.never rfl (pi_range2 rfl B.range (pa_cons (pv 2) (pa_cons (pe_callB call_len_seq (by rfl) B.len PySem.boot_len (pa_cons (pe_fld (pv 0) rfl) pa_nil)) pa_nil))) (pg_name (i := 3) scHd.nd rfl (Or.inl rfl)) (pss_cons (ps_set (i := 4) scHd.nd rfl (Or.inl rfl) (pe_call GGo hr rfl GO.g GO.F.kp GO.b .nil pass0 (pa_cons (pv 1) (pa_cons (pe_ix ix_list (pe_fld (pv 0) rfl) (pv 3) (fun _ _ => rfl)) pa_nil))))
      (pss_cons (ps_if (pt_cmp (pc_dnotin hu (pv 4) (pe_ix ix_list (pe_fld (pv 0) rfl) (pv 3) (fun _ _ => rfl)))) (pss_one (ps_ret (pe_bl))) pss_nil)
      (pss_one (ps_set (i := 1) scHd.nd rfl (Or.inl rfl) (pe_call GOn hr rfl ON.g ON.F.kp ON.b .nil pass0 (pa_cons (pv 1) (pa_cons (pe_dget hu (pe_ix ix_list (pe_fld (pv 0) rfl) (pv 3) (fun _ _ => rfl)) (pv 4) (fun _ _ => rfl)) pa_nil))))))))
      (pss_one (ps_ret (pe_bl))), ?_⟩
    show tSeq _ _ _ [some (.ref c), some (.ref a), some (.int (i : Int)), none, none] H
    obtain ⟨dx, hob⟩ := ch.ob
    refine seq_gen (fun σ' H' => ∃ (a' : Addr) (L' : List Int) (l3 l4 : Option V), σ' = [some (.ref c), some (.ref a'), some (.int (i : Int)), l3, l4] ∧ Same H H' ∧ Sift n (lv.drop i) L) (fun nx hnx => ?_) ?_
    · generalize hA : tSeq _ _ = A
      refine ⟨_, rfl, _, rfl, c, C, dx, _, _, rfl, hob, cl, na1, rfl, la, _, rfl, .inl (SqL.of ch.la), (i : Int), (lv.length : Int), by rw [List.length_map, List.length_map], by omega, ?_⟩
      rw [show ((lv.length : Int) - (i : Int)).toNat = lv.length - i by omega]
      refine for_range (lo := (i : Int)) (n := lv.length - i) (g := gName 3) (fun j σ' H' => ∃ (a' : Addr) (L' : List Int) (l3 l4 : Option V), σ' = [some (.ref c), some (.ref a'), some (.int (i : Int)), l3, l4] ∧ Same H H' ∧ SqT K H' a' (L'.map V.int) ∧ Trn n L' ∧ (Sift n (lv.drop i) L ↔ Sift n (lv.drop (i + j)) L')) ⟨a, L, _, _, rfl, Same.refl H, hs, t, by rw [Nat.add_zero]⟩ ?_ ?_
      · rintro j σ' H1 hj ⟨a', L', l3, l4', rfl, s1, hs1, t1, iff⟩
        subst hA
        show tSeq _ _ _ [some (.ref c), some (.ref a'), some (.int (i : Int)), some (.int ((i : Int) + (j : Int))), l4'] H1
        rw [show (i : Int) + (j : Int) = ((i + j : Nat) : Int) by omega]
        rw [show i + (j + 1) = i + j + 1 by omega]
        have hp : i + j < lv.length := by omega
        have fp0 : Full n (lv.drop (i + j)) := by
          have := full_drop fu j
          rw [List.drop_drop] at this
          exact this
        generalize i + j = p at hp iff fp0
        have ch1 := ch.same s1
        have ob1 := s1 _ _ hob
        have lL := t1.len
        obtain ⟨v, hv⟩ : ∃ v, lv[p]? = some v := ⟨_, List.getElem?_eq_getElem hp⟩
        have dr : lv.drop p = v :: lv.drop (p + 1) := by rw [List.drop_eq_getElem_cons hp, (List.getElem?_eq_some_iff.mp hv).2]
        have fp := fp0
        rw [dr] at fp iff
        have vp := fp.2.1.pt
        have atl : atI ((lv.map (·.pt)).map V.int) (p : Int) = some (V.int v.pt) := atI_nat (by rw [List.getElem?_map, List.getElem?_map, hv]; rfl)
        obtain ⟨g, hg⟩ : ∃ g, gs[p]? = some g := ⟨_, List.getElem?_eq_getElem (by rw [ch.lg]; exact hp)⟩
        obtain ⟨b, hb⟩ : ∃ b, bs[p]? = some b := ⟨_, List.getElem?_eq_getElem (by rw [ch.lb]; exact hp)⟩
        obtain ⟨m, hm⟩ : ∃ m, ms[p]? = some m := ⟨_, List.getElem?_eq_getElem (by rw [ch.lm]; exact hp)⟩
        have atg : atI (gs.map V.ref) (p : Int) = some (V.ref g) := atI_nat (by rw [List.getElem?_map, hg]; rfl)
        have atb : atI (bs.map V.ref) (p : Int) = some (V.ref b) := atI_nat (by rw [List.getElem?_map, hb]; rfl)
        obtain ⟨⟨kg, hkg, pg⟩, ⟨kb, hkb, lkb, pb⟩, _⟩ := ch1.fl p g b m v hg hb hm hv
        refine seq_gen (fun σ' H' => σ' = [some (.ref c), some (.ref a'), some (.int (i : Int)), some (.int (p : Int)), some (.int (gL L' v.pt))] ∧ H' = H1) (fun nx hnx => ?_) ?_
        · exact ⟨_, rfl, _, rfl, c, C, dx, _, _, rfl, ob1, cl, na1, rfl, _, rfl, la, _, (p : Int), _, rfl, rfl, SqL.of ch1.la, atl, a', L', v.pt, rfl, hs1, vp.1, by rw [lL]; exact vp.2, hnx _ _ ⟨rfl, rfl⟩⟩
        rintro σ2 H2 ⟨rfl, rfl⟩
        rcases paired_look pg (gL L' v.pt) with ⟨e1, e2⟩ | ⟨u, ua, e1, e2, hua⟩
        · have hd : DGet H2 g (V.int (gL L' v.pt)) none := by
            rw [← e2]
            exact DGet.k (k := .inl (gL L' v.pt)) hkg
          refine ⟨_, rfl, _, rfl, c, C, dx, _, _, rfl, ob1, cl, na2, rfl, _, rfl, ga, _, (p : Int), _, rfl, rfl, SqL.of ch1.ga, atg, g, _, rfl, hd, _, rfl, iteT ?_⟩
          refine q false H2 ⟨fun h => (nomatch h), fun sf => ?_⟩ s1
          obtain ⟨u, b', hu', _⟩ := iff.mp sf
          rw [e1] at hu'
          cases hu'
        · have hd : DGet H2 g (V.int (gL L' v.pt)) (some (.ref ua)) := by
            rw [← e2]
            exact DGet.k (k := .inl (gL L' v.pt)) hkg
          obtain ⟨tb, bk, f1, f2, htb⟩ := pb _ _ e1
          have hd2 : DGet H2 b (V.int (gL L' v.pt)) (some (.ref tb)) := by
            rw [← f1]
            exact DGet.k (k := .inl (gL L' v.pt)) hkb
          have tu := (fp.2.1.way _ _ e1).1.trn fp.2.1.tr
          refine ⟨_, rfl, _, rfl, c, C, dx, _, _, rfl, ob1, cl, na2, rfl, _, rfl, ga, _, (p : Int), _, rfl, rfl, SqL.of ch1.ga, atg, g, _, rfl, hd, _, rfl, iteF ?_⟩
          refine ⟨_, rfl, _, rfl, c, C, dx, _, _, rfl, ob1, cl, na3, rfl, _, rfl, wa, _, (p : Int), _, rfl, rfl, SqL.of ch1.wa, atb, _, rfl, b, _, rfl, hd2, a', tb, n, L', bk, rfl, hs1, t1, n4, SqT.of htb, f2.len, fun a2 H3 s3 ha2 => ?_⟩
          refine ⟨a2, joined L' bk, _, _, rfl, Same.trans s1 s3, SqT.of ha2, trn_joined t1 (f2.trn tu), iff.trans ⟨fun h => ?_, fun h => ⟨u, bk, e1, f2, h⟩⟩⟩
          obtain ⟨u', b', hu', hb', h⟩ := h
          rw [e1] at hu'
          cases hu'
          rw [f2.uniq tu hb']
          exact h
      · rintro σ' H1 ⟨a', L', l3, l4', rfl, s1, hs1, t1, iff⟩
        refine hnx _ _ ⟨a', L', l3, l4', rfl, s1, iff.mpr ?_⟩
        rw [List.drop_of_length_le (by omega)]
        trivial
    rintro σ' H1 ⟨a', L', l3, l4', rfl, s1, sf⟩
    exact q true H1 ⟨fun _ => sf, fun _ => rfl⟩ s1
end
end Toy

-- part: KC1b
namespace Toy
open PySem L2
/-! ### a floor of a chain is changed -/
/-- all but these stays -/
def But (xs : List Addr) (H H' : Hp) : Prop := ∀ a o, H a = some o → a ∉ xs → H' a = some o
theorem But.refl {xs : List Addr} {H : Hp} : But xs H H := fun _ _ h _ => h
theorem But.trans {xs : List Addr} {H H1 H2 : Hp} (a : But xs H H1) (b : But xs H1 H2) : But xs H H2 := fun c o h n => b c o (a c o h n) n
theorem But.of {xs : List Addr} {H H' : Hp} (e : Same H H') : But xs H H' := fun a o h _ => e a o h
theorem But.upd {xs : List Addr} {H : Hp} {a : Addr} {o : HO} (h : a ∈ xs) : But xs H (L2.upd H a o) := fun b u hb n => by rw [upd_ne (fun z => n (by rw [z]; exact h))]; exact hb
theorem But.more {xs ys : List Addr} {H H' : Hp} (h : ∀ a ∈ xs, a ∈ ys) (b : But xs H H') : But ys H H' := fun a o ha n => b a o ha fun z => n (h a z)
theorem FlAt.but {H H' : Hp} {n : Nat} {xs : List Addr} {g b m : Addr} {v : Lv} (f : FlAt H n g b m v) (e : But xs H H') (nt : ∀ a ∈ xs, ∀ ys, H a ≠ some (.tup ys)) (hg : g ∉ xs) (hb : b ∉ xs) (hm : m ∉ xs) : FlAt H' n g b m v := by
  have tp : ∀ {a : Addr} {ys : List V}, H a = some (.tup ys) → H' a = some (.tup ys) := fun {a ys} h => e a _ h fun z => nt a z _ h
  obtain ⟨⟨k1, h1, p1⟩, ⟨k2, h2, l2, p2⟩, ⟨zs, h3, t3⟩⟩ := f
  exact ⟨⟨k1, e _ _ h1 hg, Paired.mapP p1 fun kv z ⟨q1, a, q2, q3⟩ => ⟨q1, a, q2, tp q3⟩⟩, ⟨k2, e _ _ h2 hb, l2, fun k u hk => by obtain ⟨a, c, q1, q2, q3⟩ := p2 k u hk; exact ⟨a, c, q1, q2, tp q3⟩⟩, ⟨zs, e _ _ h3 hm, Paired.mapP t3 fun x c h => tp h⟩⟩
theorem pairMapIn {α β : Type} {R S : α → β → Prop} : ∀ {a : List α} {b : List β}, Paired R a b → (∀ x y, y ∈ b → R x y → S x y) → Paired S a b
  | _, _, .nil, _ => .nil
  | _, _, .cons h t, f => .cons (f _ _ List.mem_cons_self h) (pairMapIn t fun x y hy => f x y (List.mem_cons_of_mem _ hy))
/-- a list that is no part of the chain is changed -/
theorem ChAt.butL {C : Addr} {H H' : Hp} {n : Nat} {c la ga wa ma : Addr} {gs bs ms : List Addr} {lv : List Lv} {l : Addr} {zs : List V} (h : ChAt C H n c la ga wa ma gs bs ms lv) (e : But [l] H H') (hl : H l = some (.lst zs)) (nl : l ∉ la :: ga :: wa :: ma :: ms) : ChAt C H' n c la ga wa ma gs bs ms lv := by
  obtain ⟨⟨dx, h0⟩, h1, h2, h3, h4, l1, l2, l3, f⟩ := h
  simp only [List.mem_cons, not_or] at nl
  obtain ⟨n1, n2, n3, n4, n5⟩ := nl
  have no : ∀ {a : Addr} {o : HO}, H a = some o → a ≠ l → H' a = some o := fun {a o} ha na => e a o ha fun z => na (List.mem_singleton.mp z)
  refine ⟨⟨dx, no h0 fun z => by rw [z, hl] at h0; cases h0⟩, no h1 (Ne.symm n1), no h2 (Ne.symm n2), no h3 (Ne.symm n3), no h4 (Ne.symm n4), l1, l2, l3, fun i g b m v a1 a2 a3 a4 => ?_⟩
  have o := f i g b m v a1 a2 a3 a4
  have o2 := o
  obtain ⟨⟨k3, y1, _⟩, ⟨k4, y2, _⟩, ⟨zs2, y3, _⟩⟩ := o2
  refine o.but e (fun a ha ys q => ?_) (fun q => ?_) (fun q => ?_) (fun q => ?_)
  · rw [List.mem_singleton.mp ha, hl] at q; cases q
  · rw [List.mem_singleton.mp q, hl] at y1; cases y1
  · rw [List.mem_singleton.mp q, hl] at y2; cases y2
  · exact n5 (by rw [← List.mem_singleton.mp q]; exact List.mem_of_getElem? a3)
theorem get_inj {α : Type} {l : List α} (nd : l.Nodup) {i j : Nat} {a : α} (hi : l[i]? = some a) (hj : l[j]? = some a) : i = j := by
  obtain ⟨i1, e1⟩ := List.getElem?_eq_some_iff.mp hi
  obtain ⟨j1, e2⟩ := List.getElem?_eq_some_iff.mp hj
  rcases Nat.lt_trichotomy i j with h | h | h
  · exact absurd (e1.trans e2.symm) (List.pairwise_iff_getElem.mp (List.nodup_iff_pairwise_ne.mp nd) i j i1 j1 h)
  · exact h
  · exact absurd (e2.trans e1.symm) (List.pairwise_iff_getElem.mp (List.nodup_iff_pairwise_ne.mp nd) j i j1 i1 h)
/-- floor i is now v' -/
theorem ChAt.set {C : Addr} {H H' : Hp} {n : Nat} {c la ga wa ma : Addr} {gs bs ms : List Addr} {lv : List Lv} {i : Nat} {g b m : Addr} {v v' : Lv} (h : ChAt C H n c la ga wa ma gs bs ms lv) (nd : (gs ++ bs).Nodup) (nm : (la :: ga :: wa :: ma :: ms).Nodup) (hg : gs[i]? = some g) (hb : bs[i]? = some b) (hm : ms[i]? = some m) (hv : lv[i]? = some v) (e : But [g, b, m] H H') (ept : v'.pt = v.pt) (f' : FlAt H' n g b m v') : ChAt C H' n c la ga wa ma gs bs ms (lv.set i v') := by
  obtain ⟨⟨dx, h0⟩, h1, h2, h3, h4, l1, l2, l3, f⟩ := h
  obtain ⟨⟨k1, e1, _⟩, ⟨k2, e2, _⟩, ⟨zs, e3, _⟩⟩ := f i g b m v hg hb hm hv
  have no : ∀ {a : Addr} {o : HO}, H a = some o → (∀ k, o ≠ .dK k) → a ≠ m → H' a = some o := fun {a o} ha ndk nam => e a o ha fun z => by
    rcases List.mem_cons.mp z with z | z
    · rw [z, e1] at ha; exact ndk _ (Option.some.inj ha).symm
    · rcases List.mem_cons.mp z with z | z
      · rw [z, e2] at ha; exact ndk _ (Option.some.inj ha).symm
      · exact nam (List.mem_singleton.mp z)
  have mm : m ∈ ms := List.mem_of_getElem? hm
  have nm' := nm
  simp only [List.nodup_cons, List.mem_cons, not_or] at nm'
  obtain ⟨⟨_, _, _, a1⟩, ⟨_, _, a2⟩, ⟨_, a3⟩, a4, ndm⟩ := nm'
  have ne : ∀ {x : Addr}, x ∉ ms → x ≠ m := fun hx z => hx (by rw [z]; exact mm)
  obtain ⟨ndg, ndb, ngb⟩ := List.nodup_append.mp nd
  refine ⟨⟨dx, no h0 (fun k z => by cases z) (fun z => by rw [z, e3] at h0; cases h0)⟩, ?_, no h2 (fun k z => by cases z) (ne a2), no h3 (fun k z => by cases z) (ne a3), no h4 (fun k z => by cases z) (ne a4), by rw [List.length_set]; exact l1, by rw [List.length_set]; exact l2, by rw [List.length_set]; exact l3, fun j g2 b2 m2 v2 x1 x2 x3 x4 => ?_⟩
  · have : (lv.set i v').map (·.pt) = lv.map (·.pt) := by
      rw [List.map_set, ept]
      refine List.ext_getElem? fun j => ?_
      by_cases z : i = j
      · subst z
        rw [List.getElem?_set_self (by rw [List.length_map]; exact (List.getElem?_eq_some_iff.mp hv).1), List.getElem?_map, hv]
        rfl
      · rw [List.getElem?_set_ne z]
    rw [this]
    exact no h1 (fun k z => by cases z) (ne a1)
  · by_cases z : i = j
    · subst z
      rw [List.getElem?_set_self (List.getElem?_eq_some_iff.mp hv).1] at x4
      cases x4
      rw [hg] at x1
      rw [hb] at x2
      rw [hm] at x3
      cases x1
      cases x2
      cases x3
      exact f'
    · rw [List.getElem?_set_ne z] at x4
      have o := f j g2 b2 m2 v2 x1 x2 x3 x4
      have o2 := o
      obtain ⟨⟨k3, y1, _⟩, ⟨k4, y2, _⟩, ⟨zs2, y3, _⟩⟩ := o2
      refine o.but e (fun a ha ys q => ?_) (fun q => ?_) (fun q => ?_) (fun q => ?_)
      · rcases List.mem_cons.mp ha with w | ha
        · rw [w, e1] at q; cases q
        · rcases List.mem_cons.mp ha with w | ha
          · rw [w, e2] at q; cases q
          · rw [List.mem_singleton.mp ha, e3] at q; cases q
      · rcases List.mem_cons.mp q with w | q
        · exact z (get_inj ndg hg (by rw [← w]; exact x1))
        · rcases List.mem_cons.mp q with w | q
          · exact ngb g2 (List.mem_of_getElem? x1) b (List.mem_of_getElem? hb) w
          · rw [List.mem_singleton.mp q, e3] at y1; cases y1
      · rcases List.mem_cons.mp q with w | q
        · exact ngb g (List.mem_of_getElem? hg) b2 (List.mem_of_getElem? x2) w.symm
        · rcases List.mem_cons.mp q with w | q
          · exact z (get_inj ndb hb (by rw [← w]; exact x2))
          · rw [List.mem_singleton.mp q, e3] at y2; cases y2
      · rcases List.mem_cons.mp q with w | q
        · rw [w, e1] at y3; cases y3
        · rcases List.mem_cons.mp q with w | q
          · rw [w, e2] at y3; cases y3
          · exact z (get_inj ndm hm (by rw [← List.mem_singleton.mp q]; exact x3))
end Toy

-- part: KC2
namespace Toy
open PySem L2
section
variable {P : Program} {w : World} {K : PySem.W.Frag} {mg : Str → Option Value} {base : Heap}
/-! ### Chain.put -/
abbrev sPu : Stmt := m_Chain_put
abbrev nPu : List Str := ["self", "turn", "at", "goals", "table", "left", "start", "way", "goal", "maker"]
theorem scPu : FnScope nPu ["self", "turn", "at"] (defScope sPu) := ⟨rfl, rfl, rfl, by decide +kernel, rfl, by decide +kernel, by decide +kernel⟩
def tFst : TE := tTup (tCons (tVar 8) (tCons (tVar 4) tNil))
def tMkr (K : PySem.W.Frag) : TE := tTup (tCons (tVar 8) (tCons (tCall (spTab K) [] E0 (tCons (tVar 9) tNil)) tNil))
def lenLK (H : Hp) (l : Addr) : Nat := match H l with
  | some (.lst xs) => xs.length
  | _ => 0
def lenDK (H : Hp) (l : Addr) : Nat := match H l with
  | some (.dK xs) => xs.length
  | _ => 0
theorem lenLK_eq {H : Hp} {l : Addr} {xs : List V} (h : H l = some (.lst xs)) : lenLK H l = xs.length := by unfold lenLK; rw [h]
theorem lenDK_eq {H : Hp} {l : Addr} {xs : List (Key × V)} (h : H l = some (.dK xs)) : lenDK H l = xs.length := by unfold lenDK; rw [h]
def LfAt (H : Hp) (x : Addr) (z : Int × List Int) : Prop := ∃ t, H x = some (.tup [.int z.1, .ref t]) ∧ H t = some (.tup ((tabL z.2).map V.int))
theorem take_set {lv : List Lv} {i : Nat} {w : Lv} (h : i < lv.length) : lv.set i w = lv.take i ++ w :: lv.drop (i + 1) := by
  rw [List.set_eq_take_append_cons_drop, if_pos h]
theorem mid_get {lv r : List Lv} {i : Nat} {w : Lv} (h : i ≤ lv.length) : (lv.take i ++ w :: r)[i]? = some w := by
  rw [List.getElem?_append_right (by rw [List.length_take]; omega), List.length_take, show i - min i lv.length = 0 by omega]
  rfl
theorem mid_set {lv r : List Lv} {i : Nat} {w u : Lv} (h : i ≤ lv.length) : (lv.take i ++ w :: r).set i u = lv.take i ++ u :: r := by
  rw [List.set_append_right _ _ (by rw [List.length_take]; omega), List.length_take, show i - min i lv.length = 0 by omega]
  rfl
theorem mid_drop {lv r : List Lv} {i : Nat} {w : Lv} (h : i ≤ lv.length) : (lv.take i ++ w :: r).drop (i + 1) = r := by
  rw [List.drop_append, List.length_take, show min i lv.length = i by omega, List.drop_of_length_le (by rw [List.length_take]; omega), show i + 1 - i = 1 by omega]
  rfl
theorem mid_take {lv r : List Lv} {i : Nat} {w : Lv} (h : i ≤ lv.length) : (lv.take i ++ w :: r).take (i + 1) = lv.take i ++ [w] := by
  rw [List.take_append, List.length_take, show min i lv.length = i by omega, List.take_of_length_le (by rw [List.length_take]; omega), show i + 1 - i = 1 by omega]
  rfl
theorem mid_len {lv r : List Lv} {i : Nat} {w v : Lv} (h : i < lv.length) (g : Grow (v :: lv.drop (i + 1)) (w :: r)) : (lv.take i ++ w :: r).length = lv.length := by
  have := congrArg List.length g.pts
  rw [List.length_map, List.length_map, List.length_cons, List.length_cons, List.length_drop] at this
  rw [List.length_append, List.length_take, List.length_cons]
  omega
theorem kinds {C : Addr} {H : Hp} {n : Nat} {c la ga wa ma : Addr} {gs bs ms : List Addr} {lv : List Lv} (ch : ChAt C H n c la ga wa ma gs bs ms lv) {k : Nat} {x : Addr} (hx : x ∈ gs.drop k ++ bs.drop k ++ ms.drop k) : (∃ ks, H x = some (.dK ks) ∧ x ∈ gs.drop k ++ bs.drop k) ∨ ∃ zs, H x = some (.lst zs) ∧ x ∈ ms.drop k := by
  have fl : ∀ j, j < lv.length → ∃ g b m v, gs[j]? = some g ∧ bs[j]? = some b ∧ ms[j]? = some m ∧ FlAt H n g b m v := fun j hj =>
    ⟨_, _, _, _, List.getElem?_eq_getElem (by rw [ch.lg]; exact hj), List.getElem?_eq_getElem (by rw [ch.lb]; exact hj), List.getElem?_eq_getElem (by rw [ch.lm]; exact hj), ch.fl j _ _ _ _ (List.getElem?_eq_getElem (by rw [ch.lg]; exact hj)) (List.getElem?_eq_getElem (by rw [ch.lb]; exact hj)) (List.getElem?_eq_getElem (by rw [ch.lm]; exact hj)) (List.getElem?_eq_getElem hj)⟩
  rcases List.mem_append.mp hx with h | h
  · left
    rcases List.mem_append.mp h with h2 | h2
    · obtain ⟨j, hj⟩ := List.getElem?_of_mem (List.mem_of_mem_drop h2)
      obtain ⟨g, b, m, v, e1, e2, e3, f⟩ := fl j (by rw [← ch.lg]; exact (List.getElem?_eq_some_iff.mp hj).1)
      rw [hj] at e1
      cases e1
      obtain ⟨⟨ks, y, _⟩, _, _⟩ := f
      exact ⟨ks, y, h⟩
    · obtain ⟨j, hj⟩ := List.getElem?_of_mem (List.mem_of_mem_drop h2)
      obtain ⟨g, b, m, v, e1, e2, e3, f⟩ := fl j (by rw [← ch.lb]; exact (List.getElem?_eq_some_iff.mp hj).1)
      rw [hj] at e2
      cases e2
      obtain ⟨_, ⟨ks, y, _⟩, _⟩ := f
      exact ⟨ks, y, h⟩
  · right
    obtain ⟨j, hj⟩ := List.getElem?_of_mem (List.mem_of_mem_drop h)
    obtain ⟨g, b, m, v, e1, e2, e3, f⟩ := fl j (by rw [← ch.lm]; exact (List.getElem?_eq_some_iff.mp hj).1)
    rw [hj] at e3
    cases e3
    obtain ⟨_, _, ⟨zs, y, _⟩⟩ := f
    exact ⟨_, y, h⟩
theorem putK_fresh {kvs : List (Key × V)} {k : Key} {v : V} (h : valV kvs k = none) : putK kvs k v = kvs ++ [(k, v)] := by
  unfold putK
  rw [valV_any, h]
  rfl
theorem pair_last {α β : Type} {R : α → β → Prop} : ∀ {a : List α} {b : List β}, Paired R a b → a ≠ [] → ∃ a0 x b0 y, a = a0 ++ [x] ∧ b = b0 ++ [y] ∧ Paired R a0 b0 ∧ R x y
  | _, _, .nil, h => absurd rfl h
  | _, _, .cons (a := x) (b := y) h .nil, _ => ⟨[], x, [], y, rfl, rfl, .nil, h⟩
  | _, _, .cons (a := x) (b := y) h (.cons h2 t), _ => by
    obtain ⟨a0, x', b0, y', e1, e2, p, q⟩ := pair_last (.cons h2 t) (by simp)
    exact ⟨x :: a0, x', y :: b0, y', by rw [e1]; rfl, by rw [e2]; rfl, .cons h p, q⟩
theorem goals_few {n : Nat} {v : Lv} (ok : LvOk n v) (nd : (v.gs.map (·.1)).Nodup) : v.gs.length ≤ 2 * n := by
  have := len_leC nd (m := lettersU n) fun g hg => by
    obtain ⟨z, hz, rfl⟩ := List.mem_map.mp hg
    obtain ⟨gu, eu⟩ := ok.way z.1 z.2 (mem_look nd hz)
    have := (gu.trn ok.tr).lt ok.pt
    rw [eu] at this
    exact letters_mem this
  rw [List.length_map, letters_len] at this
  exact this
theorem pairGetK {α β : Type} {R : α → β → Prop} : ∀ {a : List α} {b : List β}, Paired R a b → ∀ {i : Nat} {x : α}, a[i]? = some x → ∃ y, b[i]? = some y ∧ R x y
  | _, _, .nil, _, _, h => nomatch h
  | _, _, .cons (b := y) h t, 0, x, e => ⟨y, rfl, by cases e; exact h⟩
  | _, _, .cons h t, i + 1, x, e => pairGetK t e
theorem pairAppK {α β : Type} {R : α → β → Prop} : ∀ {a c : List α} {b d : List β}, Paired R a b → Paired R c d → Paired R (a ++ c) (b ++ d)
  | _, _, _, _, .nil, h => h
  | _, _, _, _, .cons x y, h => .cons x (pairAppK y h)
/-- what a call of put may be asked, and what it gives -/
structure PutPre (K : PySem.W.Frag) (C : Addr) (H : Hp) (n : Nat) (c la ga wa ma : Addr) (gs bs ms : List Addr) (lv : List Lv) (a : Addr) (L : List Int) (i : Nat) (F : List Int) : Prop where
  ch : ChAt C H n c la ga wa ma gs bs ms lv
  fu : Full n (lv.drop i)
  kd : KeyNd (lv.drop i)
  st : ∀ v ∈ lv.drop i, Strong n v.ms
  hs : H a = some (.tup (L.map V.int))
  tr : Trn n L
  n4 : n ≤ 400
  il : i ≤ lv.length
  l4 : lv.length ≤ 400
  en : Enough n F (lv.drop i)
  hF : ∀ p ∈ F, Lt n p
  gk : ∀ t, GenL n (lv.drop i) t → Keeps F t
  kt : Keeps F L
  nd : (gs ++ bs).Nodup
  nm : (la :: ga :: wa :: ma :: ms).Nodup
def spPu (K : PySem.W.Frag) (C : Addr) (d : Nat) : Sp := fun vs H Q _ => ∃ (c la ga wa ma : Addr) (gs bs ms : List Addr) (lv : List Lv) (n : Nat) (a : Addr) (L : List Int) (i : Nat) (F : List Int), vs = [.ref c, .ref a, .int (i : Int)] ∧ PutPre K C H n c la ga wa ma gs bs ms lv a L i F ∧ lv.length < i + d ∧
  ∀ (sf : List Lv) (H' : Hp), ChAt C H' n c la ga wa ma gs bs ms (lv.take i ++ sf) → PutPost n (lv.drop i) sf L → (∀ v ∈ sf, Strong n v.ms) → (∀ b o, H b = some o → b ∉ gs.drop i ++ bs.drop i ++ ms.drop i → H' b = some o) → Q .non H'
theorem ok_pu {f fG fO fT fL fH C : Addr} {fd fdG fdO fdT fdL fdH : FuncData} {k : Nat} (F : Fun K "put" "Chain.put" sPu f fd) (B : Bl mg) (cl : Cls K C) (na1 : NoAttr K C "letters") (na2 : NoAttr K C "goals") (na3 : NoAttr K C "ways_back") (na4 : NoAttr K C "_made_by")
    (GO : Df K mg "goes" sGoes ["turn", "letter"] fG fdG) (GGo : FnOk P w K mg base CX0 1 fG fdG ["turn", "letter"] (spGoes K)) (ON : Df K mg "led_on" sOn ["turn", "table"] fO fdO) (GOn : FnOk P w K mg base CX0 1 fO fdO ["turn", "table"] (spOn K))
    (TB : Df K mg "table_of" sTab ["turn"] fT fdT) (GTb : FnOk P w K mg base CX0 1 fT fdT ["turn"] (spTab K)) (LB : Df K mg "led_back" sLb ["turn"] fL fdL) (GLb : FnOk P w K mg base CX0 1 fL fdL ["turn"] (spLb K))
    (mHd : Meth K C "holds" fH) (bHd : Binds K fdH ["self", "turn", "at"] []) (GHd : FnOk P w K mg base CX0 2 fH fdH ["self", "turn", "at"] (spHd K C))
    (mPu : Meth K C "put" f) (bPu : Binds K fd ["self", "turn", "at"] []) {d : Nat} (GPu : FnOk P w K mg base CX0 (k + 3) f fd ["self", "turn", "at"] (spPu K C d)) : FnOk P w K mg base CX0 (k + 4) f fd ["self", "turn", "at"] (spPu K C (d + 1)) := by
  refine F.ok scPu (fun vs H Q E h => ?_) (fun cdv A outer s H vs Q E hr h => ?_)
  · obtain ⟨c, la, ga, wa, ma, gs, bs, ms, lv, n, a, L, i, F', rfl, _⟩ := h
    rfl
  · obtain ⟨c, la, ga, wa, ma, gs, bs, ms, lv, n, a, L, i, F', rfl, pre, dl, q⟩ := h
    have hu := hu_of hr
    have hr2 := hr.mono (show 3 ≤ k + 3 by omega)
    refine ⟨_, pss_cons (ps_if (pt_val (pe_meth (pv 0) cl mHd GHd (hr.mono (by omega)) bHd .nil pass0 (pa_cons (pv 1) (pa_cons (pv 2) pa_nil)))) (pss_one (ps_retN)) pss_nil)
      (pss_cons (ps_expr (pe_bm PySem.F.plainAttrs_list PySem.F.slot_list_append PySem.F.type_list_append mt_append (pe_ix ix_list (pe_fld (pv 0) rfl) (pv 2) (fun _ _ => rfl)) (pa_cons (pv 1) pa_nil)))
      (pss_cons (ps_set (i := 3) scPu.nd rfl (Or.inl rfl) (pe_ix ix_list (pe_fld (pv 0) rfl) (pv 2) (fun _ _ => rfl)))
      (pss_cons (ps_set (i := 4) scPu.nd rfl (Or.inr rfl) (pe_call GTb (hr.mono (by omega)) rfl TB.g TB.F.kp TB.b .nil pass0 (pa_cons (pv 1) pa_nil)))
      (pss_cons (ps_lock (ps_setLc (i := 5) (own := [("goal", 8)]) (g := gName 8) (tt := tYes) (te := tFst) rfl scPu.nd rfl rfl (sw_true rfl rfl rfl (by decide +kernel)) (pi_keys (pv 3)) (blkOk_by (own := [("goal", 8)]) (N := nPu) (sc := (defScope sPu)) (by decide +kernel)) (fun _ _ _ _ _ => pg_name (i := 8) scPu.nd rfl (Or.inl rfl)) (fun _ _ _ _ _ => pts_nil) (fun _ _ _ _ _ => pe_tup (pa_cons (pv 8) (pa_cons (pv 4) pa_nil)))))
      (pss_one (ps_while PassesOwn.never (pt_truth (pv 5) (fun _ => rfl)) (pss_cons (ps_asg (pe_bm0 PySem.F.plainAttrs_list PySem.F.slot_list_pop PySem.F.type_list_pop mt_pop (pv 5)) (pg_tup rfl (pgs_cons (pg_name (i := 6) scPu.nd rfl (Or.inl rfl)) (pgs_cons (pg_name (i := 4) scPu.nd rfl (Or.inr rfl)) pgs_nil))))
      (pss_cons (ps_set (i := 7) scPu.nd rfl (Or.inl rfl) (pe_call GOn (hr.mono (by omega)) rfl ON.g ON.F.kp ON.b .nil pass0 (pa_cons (pe_dget hu (pv 3) (pv 6) (fun _ _ => rfl)) (pa_cons (pv 4) pa_nil))))
      (pss_cons (ps_set (i := 8) scPu.nd rfl (Or.inr rfl) (pe_call GGo (hr.mono (by omega)) rfl GO.g GO.F.kp GO.b .nil pass0 (pa_cons (pv 7) (pa_cons (pe_ix ix_list (pe_fld (pv 0) rfl) (pv 2) (fun _ _ => rfl)) pa_nil))))
      (pss_one (ps_if (pt_cmp (pc_din hu (pv 8) (pv 3))) (pss_one (ps_expr (pe_meth (pv 0) cl mPu GPu hr bPu .nil pass0 (pa_cons (pe_call GOn (hr.mono (by omega)) rfl ON.g ON.F.kp ON.b .nil pass0 (pa_cons (pv 7) (pa_cons (pe_dget hu (pe_ix ix_list (pe_fld (pv 0) rfl) (pv 2) (fun _ _ => rfl)) (pv 8) (fun _ _ => rfl)) pa_nil))) (pa_cons (pe_op op_add (pv 2) (pe_int)) pa_nil))))) (pss_cons (ps_dput hu (pv 3) (pv 8) (pv 7) rfl)
      (pss_cons (ps_dput hu (pe_ix ix_list (pe_fld (pv 0) rfl) (pv 2) (fun _ _ => rfl)) (pv 8) (pe_call GTb (hr.mono (by omega)) rfl TB.g TB.F.kp TB.b .nil pass0 (pa_cons (pe_call GLb (hr.mono (by omega)) rfl LB.g LB.F.kp LB.b .nil pass0 (pa_cons (pv 7) pa_nil)) pa_nil)) rfl)
      (pss_one (ps_expr (pe_bm PySem.F.plainAttrs_list PySem.F.slot_list_extend PySem.F.type_list_extend mt_extend (pv 5) (pa_cons (pe_lc (own := [("maker", 9)]) (g := gName 9) (tt := tYes) (te := tMkr K) rfl scPu.nd (pi_list (pe_ix ix_list (pe_fld (pv 0) rfl) (pv 2) (fun _ _ => rfl))) (blkOk_by (own := [("maker", 9)]) (N := nPu) (sc := (defScope sPu)) (by decide +kernel)) (fun _ _ _ _ _ => pg_name (i := 9) scPu.nd rfl (Or.inl rfl)) (fun _ _ _ _ _ => pts_nil) (fun _ _ _ _ _ => pe_tup (pa_cons (pv 8) (pa_cons (pe_call GTb (hr.mono (by omega)) rfl TB.g TB.F.kp TB.b .nil pass0 (pa_cons (pv 9) pa_nil)) pa_nil)))) pa_nil))))))))))))))))), ?_⟩
    show tSeq _ _ _ [some (.ref c), some (.ref a), some (.int (i : Int)), none, none, none, none, none, none, none] H
    obtain ⟨ch, fu, kd, st, hs, tr, n4, il, lv4, en, hF, gk, kt, nd, nm⟩ := pre
    obtain ⟨dx, hob⟩ := ch.ob
    have fd := fu
    have kdd := kd
    refine ⟨_, rfl, c, dx, _, rfl, hob, rfl, _, rfl, _, rfl, c, la, ga, wa, ma, gs, bs, ms, lv, n, a, L, i, rfl, ch, fu, SqT.of hs, tr, n4, il, lv4, fun bb H1 iff s1 => ⟨bb, rfl, ?_⟩⟩
    cases bb with
    | true =>
      refine iteT (q (lv.drop i) H1 ?_ (PutPost.same fd kdd (iff.mp rfl)) st fun b o h _ => s1 b o h)
      rw [List.take_append_drop]
      exact ch.same s1
    | false =>
      refine iteF ?_
      have nos : ¬ Sift n (lv.drop i) L := fun z => by cases iff.mpr z
      have hil : i < lv.length := by
        refine Nat.lt_of_le_of_ne il fun z => nos ?_
        rw [z, List.drop_of_length_le (Nat.le_refl _)]
        trivial
      obtain ⟨v, hv⟩ : ∃ v, lv[i]? = some v := ⟨_, List.getElem?_eq_getElem hil⟩
      have dr : lv.drop i = v :: lv.drop (i + 1) := by rw [List.drop_eq_getElem_cons hil, (List.getElem?_eq_some_iff.mp hv).2]
      rw [dr] at fd kdd nos en gk st
      obtain ⟨g, hg⟩ : ∃ g, gs[i]? = some g := ⟨_, List.getElem?_eq_getElem (by rw [ch.lg]; exact hil)⟩
      obtain ⟨b, hb⟩ : ∃ b, bs[i]? = some b := ⟨_, List.getElem?_eq_getElem (by rw [ch.lb]; exact hil)⟩
      obtain ⟨m, hm⟩ : ∃ m, ms[i]? = some m := ⟨_, List.getElem?_eq_getElem (by rw [ch.lm]; exact hil)⟩
      have atg : atI (gs.map V.ref) (i : Int) = some (V.ref g) := atI_nat (by rw [List.getElem?_map, hg]; rfl)
      have atb : atI (bs.map V.ref) (i : Int) = some (V.ref b) := atI_nat (by rw [List.getElem?_map, hb]; rfl)
      have atm : atI (ms.map V.ref) (i : Int) = some (V.ref m) := atI_nat (by rw [List.getElem?_map, hm]; rfl)
      have ch1 := ch.same s1
      have ob1 := s1 _ _ hob
      have stv : Strong n v.ms := st v List.mem_cons_self
      have eZ : sizeLine = 16777216 := rfl
      have n1 : 1 ≤ n := by have := fd.2.1.pt; have h1 := this.1; have h2 := this.2; omega
      obtain ⟨fg, fb, ⟨xs, hxs, txs⟩⟩ := ch1.fl i g b m v hg hb hm hv
      have st1 : Strong n (v.ms ++ [L]) := stv.put fd en hF gk tr nos
      have hs1 := s1 _ _ hs
      unfold tNext
      dsimp only
      show tSeq _ _ _ [some (.ref c), some (.ref a), some (.int (i : Int)), none, none, none, none, none, none, none] H1
      refine seq_gen (fun σ' H' => σ' = [some (.ref c), some (.ref a), some (.int (i : Int)), none, none, none, none, none, none, none] ∧ H' = L2.upd H1 m (.lst (xs.map V.ref ++ [V.ref a]))) (fun nx hnx => ?_) ?_
      · exact ⟨_, rfl, c, C, dx, _, _, rfl, ob1, cl, na4, rfl, _, rfl, ma, _, (i : Int), _, rfl, rfl, SqL.of ch1.ma, atm, .inl ⟨rfl, _, SqL.of hxs⟩, _, rfl, m, _, _, rfl, rfl, hxs, by rw [List.length_map, txs.length]; have := stv.len12 n4; omega, hnx _ _ ⟨rfl, rfl⟩⟩
      rintro σ2 H2 ⟨rfl, rfl⟩
      have lst_ne : ∀ {x : Addr} {o : HO}, H1 x = some o → (∀ zs, o ≠ .lst zs) → x ≠ m := fun {x o} h hn z => by rw [z, hxs] at h; exact hn _ (Option.some.inj h).symm
      have e2 : But [g, b, m] H1 (L2.upd H1 m (.lst (xs.map V.ref ++ [V.ref a]))) := But.upd (List.mem_cons_of_mem _ (List.mem_cons_of_mem _ List.mem_cons_self))
      have ch2 : ChAt C (L2.upd H1 m (.lst (xs.map V.ref ++ [V.ref a]))) n c la ga wa ma gs bs ms (lv.set i ⟨v.pt, v.gs, v.ms ++ [L]⟩) := by
        refine ch1.set nd nm hg hb hm hv e2 rfl ?_
        obtain ⟨k1, q1, q2⟩ := fg
        obtain ⟨k2, q3, q4, q5⟩ := fb
        have up' : ∀ {x : Addr} {o : HO}, H1 x = some o → (∀ zs, o ≠ .lst zs) → L2.upd H1 m (.lst (xs.map V.ref ++ [V.ref a])) x = some o := fun h hn => by rw [upd_ne (lst_ne h hn)]; exact h
        refine ⟨⟨k1, up' q1 (fun _ z => by cases z), Paired.mapP q2 fun kv z ⟨w1, x, w2, w3⟩ => ⟨w1, x, w2, up' w3 (fun _ z => by cases z)⟩⟩, ⟨k2, up' q3 (fun _ z => by cases z), q4, fun k u hk => by obtain ⟨x, y, w1, w2, w3⟩ := q5 k u hk; exact ⟨x, y, w1, w2, up' w3 (fun _ z => by cases z)⟩⟩, ⟨xs ++ [a], by rw [upd_same, List.map_append]; rfl, ?_⟩⟩
        exact pairAppK (Paired.mapP txs fun x y h => up' h (fun _ z => by cases z)) (.cons (up' hs1 (fun _ z => by cases z)) .nil)
      have hs2 : L2.upd H1 m (.lst (xs.map V.ref ++ [V.ref a])) a = some (.tup (L.map V.int)) := by rw [upd_ne (lst_ne hs1 (fun _ z => by cases z))]; exact hs1
      have ob2 : L2.upd H1 m (.lst (xs.map V.ref ++ [V.ref a])) c = some (.ins C dx (chF la ga wa ma)) := by rw [upd_ne (lst_ne ob1 (fun _ z => by cases z))]; exact ob1
      have b2 : But [g, b, m] H (L2.upd H1 m (.lst (xs.map V.ref ++ [V.ref a]))) := (But.of s1).trans e2
      generalize L2.upd H1 m (.lst (xs.map V.ref ++ [V.ref a])) = H2 at ch2 hs2 ob2 b2
      clear e2 lst_ne fg fb hxs txs
      refine seq_gen (fun σ' H' => σ' = [some (.ref c), some (.ref a), some (.int (i : Int)), some (.ref g), none, none, none, none, none, none] ∧ H' = H2) (fun nx hnx => ?_) ?_
      · exact ⟨_, rfl, c, C, dx, _, _, rfl, ob2, cl, na2, rfl, _, rfl, ga, _, (i : Int), _, rfl, rfl, SqL.of ch2.ga, atg, hnx _ _ ⟨rfl, rfl⟩⟩
      rintro σ3 H3 ⟨rfl, rfl⟩
      have Lne : L ≠ [] := fun z => by have := tr.len; rw [z] at this; simp at this; omega
      refine seq_gen (fun σ' H' => ∃ tb : Addr, σ' = [some (.ref c), some (.ref a), some (.int (i : Int)), some (.ref g), some (.ref tb), none, none, none, none, none] ∧ Same H3 H' ∧ H' tb = some (.tup ((tabL L).map V.int))) (fun nx hnx => ?_) ?_
      · exact ⟨_, rfl, a, L, rfl, SqT.of hs2, Lne, by rw [tr.len]; exact n4, fun tb H4 s4 htb => hnx _ _ ⟨tb, rfl, s4, htb⟩⟩
      rintro σ4 H4 ⟨tb, rfl, s4, htb⟩
      have ch4 := ch2.same s4
      have ob4 := s4 _ _ ob2
      have b4 := b2.trans (But.of s4)
      have hv1 : (lv.set i ⟨v.pt, v.gs, v.ms ++ [L]⟩)[i]? = some ⟨v.pt, v.gs, v.ms ++ [L]⟩ := List.getElem?_set_self hil
      obtain ⟨⟨kg, hkg, pg⟩, _, _⟩ := ch4.fl i g b m _ hg hb hm hv1
      refine seq_gen (fun σ' H' => ∃ (lf : Addr) (ps : List Addr), σ' = [some (.ref c), some (.ref a), some (.int (i : Int)), some (.ref g), some (.ref tb), some (.ref lf), none, none, none, none] ∧ Same H4 H' ∧ H4 lf = none ∧ H' lf = some (.lst (ps.map V.ref)) ∧ Paired (fun (x : Addr) (z : Int × List Int) => H' x = some (.tup [.int z.1, .ref tb])) ps (v.gs.map fun z => (z.1, L))) (fun nx hnx => ?_) ?_
      · refine ⟨g, .dK kg, hkg, trivial, fun od => ?_⟩
        refine ⟨_, rfl, g, od, rfl, .inl ⟨kg, upd_same, fun D hD => ?_⟩⟩
        have hD4 : H4 D = none := by
          rw [upd_ne (fun z => by rw [z, upd_same] at hD; cases hD)] at hD
          exact hD
        refine lc_it (walk_keys (d := g) (o := od) (kvs := kg)) (fun j Hj => Same (L2.upd H4 g (.frz od (.dK kg))) Hj ∧ ∃ ps : List Addr, Hj D = some (.lst (ps.map V.ref)) ∧ ps.length = j ∧ Paired (fun (x : Addr) (z : Int × List Int) => Hj x = some (.tup [.int z.1, .ref tb])) ps ((v.gs.map fun z => (z.1, L)).take j)) ⟨Same.new hD, [], upd_same, rfl, .nil⟩ (fun j Hj _ w => w.1 _ _ upd_same) ?_ ?_
        · rintro j x Hj _ hj ⟨ej, ps, hDj, lp, tp⟩ ⟨rfl, k, w0, hk, rfl⟩
          obtain ⟨z, hz, e1, _⟩ := pairGetK pg hk
          have e1 : k = .inl z.1 := e1
          subst e1
          have kl : kg.length = v.gs.length := pg.length
          have g8 := goals_few fd.2.1 (kdd v List.mem_cons_self)
          refine ⟨rfl, yesT ?_⟩
          show tFst [some (.ref c), some (.ref a), some (.int (i : Int)), some (.ref g), some (.ref tb), none, none, none, some (.int z.1), none] _ _
          unfold tFst
          walk_at "rd"
          refine ⟨by show 2 ≤ sizeLine; decide, fun p hp => ?_⟩
          have sp := Same.new (o := .tup [V.int z.1, V.ref tb]) hp
          have ek : (v.gs.map fun z => (z.1, L))[j]? = some (z.1, L) := by rw [List.getElem?_map, hz]; rfl
          refine ⟨_, sp _ _ hDj, by rw [List.length_map]; omega, ?_, ps ++ [p], by rw [upd_same, List.map_append]; rfl, by rw [List.length_append, lp]; rfl, ?_⟩
          · intro x o hx
            rw [upd_ne (fun q => by rw [q, hD] at hx; cases hx)]
            exact sp _ _ (ej _ _ hx)
          rw [List.take_add_one, ek]
          refine pairAppK (Paired.mapP tp fun x z h => ?_) (.cons ?_ .nil)
          · rw [upd_ne (fun q => by rw [q, hDj] at h; cases h)]
            exact sp _ _ h
          · rw [upd_ne (fun q => by rw [q, hDj] at hp; cases hp)]
            exact upd_same
        · rintro Hj ⟨ej, ps, hDj, lp, tp⟩
          have kl : kg.length = v.gs.length := pg.length
          rw [List.take_of_length_le (by rw [List.length_map]; omega)] at tp
          have hgj := ej _ _ upd_same
          refine ⟨hgj, hnx _ _ ⟨D, ps, rfl, ?_, hD4, ?_, ?_⟩⟩
          · intro x o hx
            by_cases e : x = g
            · rw [e, upd_same, ← hkg, ← e, hx]
            · rw [upd_ne e]
              exact ej _ _ (by rw [upd_ne e]; exact hx)
          · rw [upd_ne (fun e => by rw [e, hgj] at hDj; cases hDj)]
            exact hDj
          · exact Paired.mapP tp fun x z h => by
              rw [upd_ne (fun e => by rw [e, hgj] at h; cases h)]
              exact h
      rintro σ5 H5 ⟨lf, ps, rfl, s5, nlf, hlf, tlf⟩
      have eset := take_set (lv := lv) (w := ⟨v.pt, v.gs, v.ms ++ [L]⟩) hil
      have ch5 := ch4.same s5
      rw [eset] at ch5
      have P0 := Pend.start fd kdd tr
      have gin : g ∈ gs.drop i := by rw [List.drop_eq_getElem_cons (by rw [ch.lg]; exact hil), (List.getElem?_eq_some_iff.mp hg).2]; exact List.mem_cons_self
      have bin : b ∈ bs.drop i := by rw [List.drop_eq_getElem_cons (by rw [ch.lb]; exact hil), (List.getElem?_eq_some_iff.mp hb).2]; exact List.mem_cons_self
      have min' : m ∈ ms.drop i := by rw [List.drop_eq_getElem_cons (by rw [ch.lm]; exact hil), (List.getElem?_eq_some_iff.mp hm).2]; exact List.mem_cons_self
      have sub3 : ∀ x ∈ [g, b, m], x ∈ gs.drop i ++ bs.drop i ++ ms.drop i := fun x hx => by
        simp only [List.mem_cons, List.not_mem_nil, or_false] at hx
        rcases hx with rfl | rfl | rfl
        · exact List.mem_append_left _ (List.mem_append_left _ gin)
        · exact List.mem_append_left _ (List.mem_append_right _ bin)
        · exact List.mem_append_right _ min'
      have b5 : But (gs.drop i ++ bs.drop i ++ ms.drop i) H H5 := (b4.trans (But.of s5)).more sub3
      have nlg : ∀ x o, H4 x = some o → x ≠ lf := fun x o h z => by rw [z, nlf] at h; cases h
      have nlf5 : lf ∉ la :: ga :: wa :: ma :: ms := fun h => by
        rcases List.mem_cons.mp h with z | h
        · exact nlg _ _ ch4.la z.symm
        rcases List.mem_cons.mp h with z | h
        · exact nlg _ _ ch4.ga z.symm
        rcases List.mem_cons.mp h with z | h
        · exact nlg _ _ ch4.wa z.symm
        rcases List.mem_cons.mp h with z | h
        · exact nlg _ _ ch4.ma z.symm
        obtain ⟨j, hj⟩ := List.getElem?_of_mem h
        have jl : j < lv.length := by rw [← ch.lm]; exact (List.getElem?_eq_some_iff.mp hj).1
        have jl2 : j < (lv.set i ⟨v.pt, v.gs, v.ms ++ [L]⟩).length := by rw [List.length_set]; exact jl
        obtain ⟨_, _, ⟨zs, y, _⟩⟩ := ch4.fl j _ _ lf _ (List.getElem?_eq_getElem (by rw [ch.lg]; exact jl)) (List.getElem?_eq_getElem (by rw [ch.lb]; exact jl)) hj (List.getElem?_eq_getElem jl2)
        exact nlg _ _ y rfl
      have hlf0 : H lf = none := by
        cases z : H lf with
        | none => rfl
        | some o =>
          have := b4 _ _ z (fun q => by
            simp only [List.mem_cons, List.not_mem_nil, or_false] at q
            rcases q with q | q | q
            · exact nlg _ _ hkg q.symm
            · obtain ⟨_, ⟨k9, y9, _⟩, _⟩ := ch4.fl i g b m _ hg hb hm hv1
              exact nlg _ _ y9 q.symm
            · obtain ⟨_, _, ⟨k9, y9, _⟩⟩ := ch4.fl i g b m _ hg hb hm hv1
              exact nlg _ _ y9 q.symm)
          rw [nlf] at this
          cases this
      refine while_by (Pv := fun σ' H' => ∃ (l4 l6 l7 l8 : Option V) (v' : Lv) (r' : List Lv) (left : List (Int × List Int)) (ps : List Addr), σ' = [some (.ref c), some (.ref a), some (.int (i : Int)), some (.ref g), l4, some (.ref lf), l6, l7, l8, none] ∧ ChAt C H' n c la ga wa ma gs bs ms (lv.take i ++ v' :: r') ∧ Pend n v' r' left ∧ Grow (v :: lv.drop (i + 1)) (v' :: r') ∧ v'.ms = v.ms ++ [L] ∧ (∀ w ∈ r', Strong n w.ms) ∧ But (gs.drop i ++ bs.drop i ++ ms.drop i) H H' ∧ H' lf = some (.lst (ps.map V.ref)) ∧ Paired (LfAt H') ps left ∧ (2 * n - v'.gs.length) * (v.ms.length + 2) + left.length ≤ 2 * n * (v.ms.length + 2) + 2 * n)
        (μ := fun _ H' => (2 * n - lenDK H' g) * (v.ms.length + 2) + lenLK H' lf) ⟨_, _, _, _, _, _, _, ps, rfl, ch5, P0, grow_start, rfl, fun w hw => st w (List.mem_cons_of_mem _ hw), b5, hlf, ?_, ?_⟩ ?_ ?_
      · exact pairMapIn tlf fun x z hz h => by
          obtain ⟨y, _, rfl⟩ := List.mem_map.mp hz
          exact ⟨tb, h, s5 _ _ htb⟩
      · have h1 := goals_few fd.2.1 (kdd v List.mem_cons_self)
        have h2 : (2 * n - v.gs.length) * (v.ms.length + 2) ≤ 2 * n * (v.ms.length + 2) := Nat.mul_le_mul_right _ (by omega)
        show (2 * n - v.gs.length) * (v.ms.length + 2) + (v.gs.map fun z => (z.1, L)).length ≤ _
        rw [List.length_map]
        omega
      · rintro σ' H6 ⟨l4, l6, l7, l8, v', r', left, ps, rfl, ch6, P6, gr6, em6, st6, b6, hlf6, tl6, bd6⟩
        by_cases pe : ps = []
        · subst pe
          cases tl6
          refine ⟨_, rfl, false, .inl ⟨_, SqL.of hlf6, rfl⟩, iteF ?_⟩
          refine q (v' :: r') H6 ch6 ?_ (fun w hw => ?_) fun x o h nx => b6 x o h nx
          · rw [dr]
            exact P6.done gr6 em6 fd tr en hF gk kt
          · rcases List.mem_cons.mp hw with rfl | hw
            · rw [em6]; exact st1
            · exact st6 w hw
        · obtain ⟨ps0, x, left0, z, rfl, rfl, tp0, hx⟩ := pair_last tl6 pe
          obtain ⟨g0, m0⟩ := z
          rw [List.length_append] at bd6
          simp only [List.length_cons, List.length_nil] at bd6
          refine ⟨_, rfl, true, .inl ⟨_, SqL.of hlf6, by rw [List.map_append]; cases ps0 <;> rfl⟩, iteT ?_⟩
          obtain ⟨tz, hx1, hx2⟩ := hx
          have nxl : ∀ {y : Addr} {o : HO}, H6 y = some o → (∀ zs, o ≠ .lst zs) → y ≠ lf := fun {y o} h hn z => by rw [z, hlf6] at h; exact hn _ (Option.some.inj h).symm
          refine seq_gen (fun σ' H' => σ' = [some (.ref c), some (.ref a), some (.int (i : Int)), some (.ref g), some (.ref tz), some (.ref lf), some (.int g0), l7, l8, none] ∧ H' = L2.upd H6 lf (.lst (ps0.map V.ref))) (fun nx hnx => ?_) ?_
          · refine ⟨_, rfl, .inl ⟨rfl, _, SqL.of hlf6⟩, lf, _, .ref x, rfl, rfl, hlf6, ?_, ?_⟩
            · rw [List.map_append, List.length_append]
              simp
            · rw [List.map_append, List.map_singleton, List.dropLast_concat]
              exact ⟨x, _, rfl, SqT.of (by rw [upd_ne (nxl hx1 (fun _ z => by cases z))]; exact hx1), rfl, _, _, rfl, _, _, rfl, rfl, hnx _ _ ⟨rfl, rfl⟩⟩
          rintro σ7 H7 ⟨rfl, rfl⟩
          have ch7 := ch6.butL (But.upd (o := .lst (ps0.map V.ref)) List.mem_cons_self) hlf6 nlf5
          have tp7 : Paired (LfAt (L2.upd H6 lf (.lst (ps0.map V.ref)))) ps0 left0 := Paired.mapP tp0 fun y z ⟨t, w1, w2⟩ => ⟨t, by rw [upd_ne (nxl w1 (fun _ z => by cases z))]; exact w1, by rw [upd_ne (nxl w2 (fun _ z => by cases z))]; exact w2⟩
          have hz7 : L2.upd H6 lf (.lst (ps0.map V.ref)) tz = some (.tup ((tabL m0).map V.int)) := by rw [upd_ne (nxl hx2 (fun _ z => by cases z))]; exact hx2
          have hl7 : L2.upd H6 lf (.lst (ps0.map V.ref)) lf = some (.lst (ps0.map V.ref)) := upd_same
          have b7 : But (gs.drop i ++ bs.drop i ++ ms.drop i) H (L2.upd H6 lf (.lst (ps0.map V.ref))) := fun x o h nx => by
            rw [upd_ne (fun z => by rw [z, hlf0] at h; cases h)]
            exact b6 x o h nx
          have lg7 : lenDK (L2.upd H6 lf (.lst (ps0.map V.ref))) g = lenDK H6 g := by
            obtain ⟨⟨k9, y9, _⟩, _, _⟩ := ch6.fl i g b m v' hg hb hm (mid_get il)
            rw [lenDK_eq y9, lenDK_eq (by rw [upd_ne (nxl y9 (fun _ z => by cases z))]; exact y9)]
          have ll6 : lenLK H6 lf = ps0.length + 1 := by rw [lenLK_eq hlf6, List.length_map, List.length_append]; rfl
          rw [← lg7, ll6]
          generalize L2.upd H6 lf (.lst (ps0.map V.ref)) = H7 at ch7 tp7 hz7 hl7 b7 ⊢
          clear hx1 hx2 nxl ch6 hlf6 b6 tl6 tp0 lg7 ll6
          obtain ⟨hm0, u, hu0⟩ := P6.lf g0 m0 (List.mem_append_right _ List.mem_cons_self)
          obtain ⟨gu, eu⟩ := P6.ok.way _ _ hu0
          have tu := gu.trn P6.ok.tr
          have tm0 := P6.ok.tr m0 hm0
          have tw := trn_joined tu tm0
          obtain ⟨⟨kg7, hkg7, pg7⟩, ⟨kb7, hkb7, lkb7, pb7⟩, ⟨xs7, hxs7, txs7⟩⟩ := ch7.fl i g b m v' hg hb hm (mid_get il)
          have hd0 : ∃ ua, DGet H7 g (V.int g0) (some (.ref ua)) ∧ H7 ua = some (.tup (u.map V.int)) := by
            rcases paired_look pg7 g0 with ⟨e1, _⟩ | ⟨u', ua, e1, e2, hua⟩
            · rw [hu0] at e1; cases e1
            · rw [hu0] at e1
              cases e1
              exact ⟨ua, by rw [← e2]; exact DGet.k (k := .inl g0) hkg7, hua⟩
          obtain ⟨ua, hd0, hua⟩ := hd0
          refine seq_gen (fun σ' H' => ∃ wy : Addr, σ' = [some (.ref c), some (.ref a), some (.int (i : Int)), some (.ref g), some (.ref tz), some (.ref lf), some (.int g0), some (.ref wy), l8, none] ∧ Same H7 H' ∧ H' wy = some (.tup ((joined u m0).map V.int))) (fun nx hnx => ?_) ?_
          · exact ⟨_, rfl, _, rfl, g, _, rfl, hd0, _, rfl, ua, tz, n, u, m0, rfl, SqT.of hua, tu, n4, SqT.of hz7, tm0.len, fun wy H8 s8 hwy => hnx _ _ ⟨wy, rfl, s8, hwy⟩⟩
          rintro σ8 H8 ⟨wy, rfl, s8, hwy⟩
          have ch8 := ch7.same s8
          obtain ⟨dx8, ob8⟩ := ch8.ob
          have vp := P6.ok.pt
          have eg : gL (joined u m0) v'.pt = gL m0 g0 := by rw [gL_joined tu vp, eu]
          have atl : atI (((lv.take i ++ v' :: r').map (·.pt)).map V.int) (i : Int) = some (V.int v'.pt) := atI_nat (by rw [List.getElem?_map, List.getElem?_map, mid_get il]; rfl)
          refine seq_gen (fun σ' H' => σ' = [some (.ref c), some (.ref a), some (.int (i : Int)), some (.ref g), some (.ref tz), some (.ref lf), some (.int g0), some (.ref wy), some (.int (gL m0 g0)), none] ∧ H' = H8) (fun nx hnx => ?_) ?_
          · exact ⟨_, rfl, _, rfl, c, C, dx8, _, _, rfl, ob8, cl, na1, rfl, _, rfl, la, _, (i : Int), _, rfl, rfl, SqL.of ch8.la, atl, wy, joined u m0, v'.pt, rfl, SqT.of hwy, vp.1, by rw [tw.len]; exact vp.2, hnx _ _ ⟨by rw [eg]; rfl, rfl⟩⟩
          rintro σ9 H9 ⟨rfl, rfl⟩
          have hkg9 := s8 _ _ hkg7
          rcases paired_look pg7 (gL m0 g0) with ⟨e1, e2⟩ | ⟨u', ua', e1, e2, hua'⟩
          · have hd9 : DGet H9 g (V.int (gL m0 g0)) none := by rw [← e2]; exact DGet.k (k := .inl (gL m0 g0)) hkg9
            refine ⟨_, rfl, _, rfl, g, _, rfl, hd9, _, rfl, iteF ?_⟩
            have nd6 : (v'.gs.map (·.1)).Nodup := P6.kd v' List.mem_cons_self
            have few := goals_few P6.ok nd6
            have kl7 : kg7.length = v'.gs.length := pg7.length
            have ngb : g ≠ b := (List.nodup_append.mp nd).2.2 g (List.mem_of_getElem? hg) b (List.mem_of_getElem? hb)
            have hkb9 := s8 _ _ hkb7
            have hxs9 := s8 _ _ hxs7
            refine seq_gen (fun σ' H' => σ' = [some (.ref c), some (.ref a), some (.int (i : Int)), some (.ref g), some (.ref tz), some (.ref lf), some (.int g0), some (.ref wy), some (.int (gL m0 g0)), none] ∧ H' = L2.upd H9 g (.dK (putK kg7 (.inl (gL m0 g0)) (.ref wy)))) (fun nx hnx => ?_) ?_
            · exact ⟨_, rfl, _, rfl, _, rfl, g, _, rfl, DPut.k (k := .inl (gL m0 g0)) hkg9 (by omega), hnx _ _ ⟨rfl, rfl⟩⟩
            rintro σa Ha ⟨rfl, rfl⟩
            have upA : ∀ {x : Addr} {o : HO}, H9 x = some o → (∀ k, o ≠ .dK k) → L2.upd H9 g (.dK (putK kg7 (.inl (gL m0 g0)) (.ref wy))) x = some o := fun {x o} h hn => by rw [upd_ne (fun z => by rw [z, hkg9] at h; exact hn _ (Option.some.inj h).symm)]; exact h
            have hbA : L2.upd H9 g (.dK (putK kg7 (.inl (gL m0 g0)) (.ref wy))) b = some (.dK kb7) := by rw [upd_ne (Ne.symm ngb)]; exact hkb9
            refine seq_gen (fun σ' H' => ∃ (tt : Addr) (BB : List Int) (Hb : Hp), σ' = [some (.ref c), some (.ref a), some (.int (i : Int)), some (.ref g), some (.ref tz), some (.ref lf), some (.int g0), some (.ref wy), some (.int (gL m0 g0)), none] ∧ Same (L2.upd H9 g (.dK (putK kg7 (.inl (gL m0 g0)) (.ref wy)))) Hb ∧ Hb tt = some (.tup ((tabL BB).map V.int)) ∧ Bk n (joined u m0) BB ∧ H' = L2.upd Hb b (.dK (putK kb7 (.inl (gL m0 g0)) (.ref tt)))) (fun nx hnx => ?_) ?_
            · refine ⟨_, rfl, wy, n, joined u m0, rfl, SqT.of (upA hwy (fun _ z => by cases z)), tw, n4, fun bb BB Hx bk1 sx hbb => ?_⟩
              have lBB := bk1.len
              refine ⟨bb, BB, rfl, SqT.of hbb, fun z => by rw [z] at lBB; simp at lBB; omega, by omega, fun tt Hy sy htt => ?_⟩
              have sxy := Same.trans sx sy
              exact ⟨_, rfl, c, C, dx8, _, _, rfl, sxy _ _ (upA ob8 (fun _ z => by cases z)), cl, na3, rfl, _, rfl, wa, _, (i : Int), _, rfl, rfl, SqL.of (sxy _ _ (upA ch8.wa (fun _ z => by cases z))), atb, _, rfl, b, _, rfl, DPut.k (k := .inl (gL m0 g0)) (sxy _ _ hbA) (by omega), hnx _ _ ⟨tt, BB, Hy, rfl, sxy, htt, bk1, rfl⟩⟩
            rintro σb Hc ⟨tt, BB, Hb, rfl, sb, htt, bk1, rfl⟩
            have hbB := sb _ _ hbA
            have tupC : ∀ {x : Addr} {ys : List V}, H9 x = some (.tup ys) → L2.upd Hb b (.dK (putK kb7 (.inl (gL m0 g0)) (.ref tt))) x = some (.tup ys) := fun {x ys} h => by
              have h2 := sb _ _ (upA h (fun _ z => by cases z))
              rw [upd_ne (fun z => by rw [z, hbB] at h2; cases h2)]
              exact h2
            have chC : ChAt C (L2.upd Hb b (.dK (putK kb7 (.inl (gL m0 g0)) (.ref tt)))) n c la ga wa ma gs bs ms (lv.take i ++ ⟨v'.pt, v'.gs ++ [(gL m0 g0, joined u m0)], v'.ms⟩ :: r') := by
              have bC : But [g, b, m] H9 (L2.upd Hb b (.dK (putK kb7 (.inl (gL m0 g0)) (.ref tt)))) := ((But.upd List.mem_cons_self).trans (But.of sb)).trans (But.upd (List.mem_cons_of_mem _ List.mem_cons_self))
              have := ch8.set nd nm hg hb hm (mid_get il) bC (v' := ⟨v'.pt, v'.gs ++ [(gL m0 g0, joined u m0)], v'.ms⟩) rfl ⟨⟨_, by rw [upd_ne ngb]; exact sb _ _ upd_same, ?_⟩, ⟨_, upd_same, ?_, fun k w hk => ?_⟩, ⟨xs7, ?_, Paired.mapP txs7 fun x y h => tupC (s8 _ _ h)⟩⟩
              · rw [mid_set il] at this
                exact this
              · rw [putK_fresh e2]
                exact pairAppK (Paired.mapP pg7 fun kv z ⟨q1, x, q2, q3⟩ => ⟨q1, x, q2, tupC (s8 _ _ q3)⟩) (.cons ⟨rfl, wy, rfl, tupC hwy⟩ .nil)
              · have := length_putK kb7 (Sum.inl (gL m0 g0) : Key) (V.ref tt)
                rw [List.length_append]
                show _ ≤ v'.gs.length + 1
                omega
              · rw [List.lookup_append] at hk
                cases ek : v'.gs.lookup k with
                | some w2 =>
                  rw [ek] at hk
                  cases hk
                  obtain ⟨x, y, q1, q2, q3⟩ := pb7 k w ek
                  refine ⟨x, y, ?_, q2, tupC (s8 _ _ q3)⟩
                  rw [valV_put, if_neg (fun z => by rw [Sum.inl.inj z, e1] at ek; cases ek)]
                  exact q1
                | none =>
                  rw [ek] at hk
                  have hk : List.lookup k [(gL m0 g0, joined u m0)] = some w := hk
                  have := List.mem_singleton.mp (look_mem hk)
                  cases this
                  refine ⟨tt, BB, by rw [valV_put, if_pos rfl], bk1, ?_⟩
                  rw [upd_ne (fun z => by rw [z, hbB] at htt; cases htt)]
                  exact htt
              · have h2 := sb _ _ (upA hxs9 (fun _ z => by cases z))
                rw [upd_ne (fun z => by rw [z, hbB] at h2; cases h2)]
                exact h2
            have hlC : L2.upd Hb b (.dK (putK kb7 (.inl (gL m0 g0)) (.ref tt))) lf = some (.lst (ps0.map V.ref)) := by
              have h2 := sb _ _ (upA (s8 _ _ hl7) (fun _ z => by cases z))
              rw [upd_ne (fun z => by rw [z, hbB] at h2; cases h2)]
              exact h2
            have hmC : L2.upd Hb b (.dK (putK kb7 (.inl (gL m0 g0)) (.ref tt))) m = some (.lst (xs7.map V.ref)) := by
              have h2 := sb _ _ (upA hxs9 (fun _ z => by cases z))
              rw [upd_ne (fun z => by rw [z, hbB] at h2; cases h2)]
              exact h2
            have txC : TupsAt (L2.upd Hb b (.dK (putK kb7 (.inl (gL m0 g0)) (.ref tt)))) xs7 v'.ms := Paired.mapP txs7 fun x y h => tupC (s8 _ _ h)
            have tlC : Paired (LfAt (L2.upd Hb b (.dK (putK kb7 (.inl (gL m0 g0)) (.ref tt))))) ps0 left0 := Paired.mapP tp7 fun y z ⟨t, w1, w2⟩ => ⟨t, tupC (s8 _ _ w1), tupC (s8 _ _ w2)⟩
            have bCC : But (gs.drop i ++ bs.drop i ++ ms.drop i) H (L2.upd Hb b (.dK (putK kb7 (.inl (gL m0 g0)) (.ref tt)))) := (((b7.trans (But.of s8)).trans (But.upd (sub3 g List.mem_cons_self))).trans (But.of sb)).trans (But.upd (sub3 b (List.mem_cons_of_mem _ List.mem_cons_self)))
            have Pf := Pend.fresh P6 hu0 e1
            have fewf := goals_few Pf.ok (Pf.kd _ List.mem_cons_self)
            rw [List.length_append] at fewf
            simp only [List.length_cons, List.length_nil] at fewf
            have st400 := st1.len12 n4
            rw [List.length_append] at st400
            simp only [List.length_cons, List.length_nil] at st400
            have lm6 : v'.ms.length = v.ms.length + 1 := by rw [em6, List.length_append]; rfl
            have bdn : 2 * n * (v.ms.length + 2) ≤ 800 * 4002 := Nat.mul_le_mul (by omega) (by omega)
            obtain ⟨dxC, obC⟩ := chC.ob
            have hgC : lenDK (L2.upd Hb b (.dK (putK kb7 (.inl (gL m0 g0)) (.ref tt)))) g = v'.gs.length + 1 := by
              rw [lenDK_eq (by rw [upd_ne ngb]; exact sb _ _ upd_same), putK_fresh e2, List.length_append, kl7]
              rfl
            generalize L2.upd Hb b (.dK (putK kb7 (.inl (gL m0 g0)) (.ref tt))) = Hc at chC hlC hmC txC tlC bCC obC hgC
            refine ⟨_, rfl, .inl ⟨rfl, _, SqL.of hlC⟩, _, rfl, c, C, dxC, _, _, rfl, obC, cl, na4, rfl, _, rfl, ma, _, (i : Int), _, rfl, rfl, SqL.of chC.ma, atm, m, rfl, ⟨_, SqL.of hmC⟩, fun D hD => ?_⟩
            have lx7 := txC.length
            refine lc_list (K := K) (a := m) (xs := xs7.map V.ref) (fun j Hj => Same Hc Hj ∧ ∃ qs : List Addr, Hj D = some (.lst (qs.map V.ref)) ∧ qs.length = j ∧ Paired (LfAt Hj) qs ((v'.ms.map fun m' => (gL m0 g0, m')).take j)) ⟨Same.new hD, [], upd_same, rfl, .nil⟩ (fun j Hj _ w => SqL.of (w.1 _ _ hmC)) ?_ ?_
            · rintro j y Hj hj ⟨ej, qs, hDj, lq, tq⟩
              rw [List.getElem?_map] at hj
              cases ez : xs7[j]? with
              | none => rw [ez] at hj; cases hj
              | some mk =>
              rw [ez] at hj
              cases hj
              obtain ⟨M, hM, hmk⟩ := TupsAt.get (txC.same ej) ez
              have tM := P6.ok.tr M (List.mem_of_getElem? hM)
              have lM := tM.len
              have jl : j < xs7.length := (List.getElem?_eq_some_iff.mp ez).1
              refine ⟨rfl, yesT ?_⟩
              show tMkr K [some (.ref c), some (.ref a), some (.int (i : Int)), some (.ref g), some (.ref tz), some (.ref lf), some (.int g0), some (.ref wy), some (.int (gL m0 g0)), some (.ref mk)] Hj _
              unfold tMkr
              walk_at "rd"
              refine ⟨mk, M, rfl, SqT.of hmk, fun z => by rw [z] at lM; simp at lM; omega, by omega, fun t Hk sk ht => ?_⟩
              walk_at "rd"
              refine ⟨by show 2 ≤ sizeLine; decide, fun p hp => ?_⟩
              have sp := Same.new (o := .tup [V.int (gL m0 g0), V.ref t]) hp
              have ekp := Same.trans sk sp
              have ek : (v'.ms.map fun m' => (gL m0 g0, m'))[j]? = some (gL m0 g0, M) := by rw [List.getElem?_map, hM]; rfl
              have hD9 := ekp _ _ hDj
              refine ⟨_, hD9, by rw [List.length_map]; omega, fun x o hx => by rw [upd_ne (fun q => by rw [q, hD] at hx; cases hx)]; exact ekp _ _ (ej _ _ hx), qs ++ [p], by rw [upd_same, List.map_append]; rfl, by rw [List.length_append, lq]; rfl, ?_⟩
              have tk : ∀ {x : Addr} {ys : List V} {H' : Hp}, H' D = some (.lst (qs.map V.ref)) → H' x = some (.tup ys) → L2.upd H' D (.lst (qs.map V.ref ++ [V.ref p])) x = some (.tup ys) := fun {x ys H'} hd h => by
                rw [upd_ne (fun q => by rw [q, hd] at h; cases h)]
                exact h
              rw [List.take_add_one, ek]
              exact pairAppK (Paired.mapP tq fun x z ⟨t', w1, w2⟩ => ⟨t', tk hD9 (ekp _ _ w1), tk hD9 (ekp _ _ w2)⟩) (.cons ⟨t, tk hD9 upd_same, tk hD9 (sp _ _ ht)⟩ .nil)
            · rintro Hj ⟨ej, qs, hDj, lq, tq⟩
              rw [List.length_map] at lq tq
              rw [List.take_of_length_le (by rw [List.length_map]; omega)] at tq
              have hlj := ej _ _ hlC
              have nDl : D ≠ lf := fun z => by rw [z, hlC] at hD; cases hD
              have kt2 : ∀ {x : Addr} {ys : List V}, Hj x = some (.tup ys) → L2.upd Hj lf (.lst (ps0.map V.ref ++ qs.map V.ref)) x = some (.tup ys) := fun {x ys} h => by
                rw [upd_ne (fun q => by rw [q, hlj] at h; cases h)]
                exact h
              have lp0 : ps0.length = left0.length := tp7.length
              have ex1 : (2 * n - (v'.gs.length + 1)) * (v.ms.length + 2) + (v.ms.length + 2) = (2 * n - v'.gs.length) * (v.ms.length + 2) := by
                rw [← Nat.succ_mul]
                congr 1
                omega
              refine ⟨lf, D, _, _, rfl, rfl, hlj, hDj, by rw [List.length_map, List.length_map]; omega, ⟨_, _, _, _, _, r', _, ps0 ++ qs, rfl, (chC.same ej).butL (But.upd List.mem_cons_self) hlj nlf5, Pf, gr6.trans grow_fresh, em6, st6, fun x o h nx => by rw [upd_ne (fun z => by rw [z, hlf0] at h; cases h)]; exact ej _ _ (bCC x o h nx), by rw [upd_same, List.map_append], pairAppK (Paired.mapP tlC fun x z ⟨t', w1, w2⟩ => ⟨t', kt2 (ej _ _ w1), kt2 (ej _ _ w2)⟩) (Paired.mapP tq fun x z ⟨t', w1, w2⟩ => ⟨t', kt2 w1, kt2 w2⟩), ?_⟩, ?_⟩
              · show (2 * n - (v'.gs ++ [(gL m0 g0, joined u m0)]).length) * (v.ms.length + 2) + _ ≤ _
                rw [List.length_append, List.length_append, List.length_map, lm6]
                simp only [List.length_cons, List.length_nil, Nat.zero_add]
                omega
              · rw [lenLK_eq upd_same, lenDK_eq hkg7, kl7, List.length_append, List.length_map, List.length_map, lq, lx7, lm6]
                obtain ⟨kq, hkq, lkq⟩ : ∃ kq, Hc g = some (.dK kq) ∧ kq.length = v'.gs.length + 1 := by
                  obtain ⟨⟨kq, y, pq⟩, _, _⟩ := chC.fl i g b m _ hg hb hm (mid_get il)
                  exact ⟨kq, y, by have := pq.length; rw [List.length_append] at this; exact this⟩
                rw [lenDK_eq (by rw [upd_ne (fun z => by rw [← z, hkq] at hlC; cases hlC)]; exact ej _ _ hkq), lkq]
                omega
          · have hd9 : DGet H9 g (V.int (gL m0 g0)) (some (.ref ua')) := by rw [← e2]; exact DGet.k (k := .inl (gL m0 g0)) hkg9
            refine ⟨_, rfl, _, rfl, g, _, rfl, hd9, _, rfl, iteT ?_⟩
            obtain ⟨tb2, bk, f1, f2, htb2⟩ := pb7 _ _ e1
            have hdb : DGet H9 b (V.int (gL m0 g0)) (some (.ref tb2)) := by rw [← f1]; exact DGet.k (k := .inl (gL m0 g0)) (s8 _ _ hkb7)
            refine ⟨_, rfl, c, dx8, _, rfl, ob8, rfl, _, rfl, _, rfl, c, C, dx8, _, _, rfl, ob8, cl, na3, rfl, _, rfl, wa, _, (i : Int), _, rfl, rfl, SqL.of ch8.wa, atb, _, rfl, b, _, rfl, hdb, wy, tb2, n, joined u m0, bk, rfl, SqT.of hwy, tw, n4, SqT.of (s8 _ _ htb2), f2.len, fun x9 H10 s10 hx9 => ?_⟩
            obtain ⟨gu', eu'⟩ := P6.ok.way _ _ e1
            have tu' := gu'.trn P6.ok.tr
            have tbk := f2.trn tu'
            have gk6 : ∀ t', Gen n v'.ms t' → Keeps F' t' := fun t' h => Gen.keeps P6.ok.tr hF (fun m2 hm2 => by
              rw [em6] at hm2
              rcases List.mem_append.mp hm2 with z | z
              · exact gk m2 (Gen.of fd.2.1.tr z)
              · rw [List.mem_singleton.mp z]; exact kt) h
            have kx : Keeps (v'.pt :: F') (joined (joined u m0) bk) := fun p hp => by
              rcases List.mem_cons.mp hp with rfl | hp
              · rw [gL_joined tw vp, eg, ← eu', f2.inv _ vp]
              · exact Keeps.join hF tw (gk6 _ (gu.mul hm0)) ((gk6 _ gu').back hF f2) p hp
            have ch10 := ch8.same s10
            have ml := mid_len (w := v') hil gr6
            have hl10 := s10 _ _ (s8 _ _ hl7)
            refine ⟨_, rfl, (i : Int), 1, rfl, rfl, c, la, ga, wa, ma, gs, bs, ms, lv.take i ++ v' :: r', n, x9, joined (joined u m0) bk, i + 1, v'.pt :: F', rfl, ⟨ch10, by rw [mid_drop il]; exact P6.full, by rw [mid_drop il]; exact fun w hw => P6.kd w (List.mem_cons_of_mem _ hw), by rw [mid_drop il]; exact st6, hx9, trn_joined tw tbk, n4, by rw [ml]; omega, by rw [ml]; exact lv4, by rw [mid_drop il]; exact (gr6.enough en).next, fun p hp => by rcases List.mem_cons.mp hp with rfl | hp; exact vp; exact hF p hp, by rw [mid_drop il]; exact fun t' h p hp => by rcases List.mem_cons.mp hp with rfl | hp; exact (P6.down t' h).2; exact gk6 _ (P6.down t' h).1 p hp, kx, nd, nm⟩, by rw [ml]; omega, fun sf H11 ch11 pp st11 b11 => ?_⟩
            rw [mid_drop il] at pp
            rw [mid_take il, List.append_assoc] at ch11
            have b11' : But (gs.drop (i + 1) ++ bs.drop (i + 1) ++ ms.drop (i + 1)) H10 H11 := fun x o h nx => b11 x o h nx
            have subd : ∀ x ∈ gs.drop (i + 1) ++ bs.drop (i + 1) ++ ms.drop (i + 1), x ∈ gs.drop i ++ bs.drop i ++ ms.drop i := fun x hx => by
              have dd : ∀ (l : List Addr), x ∈ l.drop (i + 1) → x ∈ l.drop i := fun l h => by
                rw [← List.drop_drop] at h
                exact List.mem_of_mem_drop h
              rcases List.mem_append.mp hx with h | h
              · rcases List.mem_append.mp h with h | h
                · exact List.mem_append_left _ (List.mem_append_left _ (dd _ h))
                · exact List.mem_append_left _ (List.mem_append_right _ (dd _ h))
              · exact List.mem_append_right _ (dd _ h)
            have tupk : ∀ {x : Addr} {ys : List V}, H10 x = some (.tup ys) → H11 x = some (.tup ys) := fun {x ys} h => b11' x _ h fun z => by
              rcases kinds ch10 z with ⟨ks, y, _⟩ | ⟨zs, y, _⟩
              · rw [h] at y; cases y
              · rw [h] at y; cases y
            have hl11 : H11 lf = some (.lst (ps0.map V.ref)) := b11' _ _ hl10 fun z => by
              rcases kinds ch10 z with ⟨ks, y, _⟩ | ⟨zs, y, q⟩
              · rw [hl10] at y; cases y
              · exact nlf5 (by simp only [List.mem_cons]; exact .inr (.inr (.inr (.inr (List.mem_of_mem_drop q)))))
            refine ⟨⟨_, _, _, _, v', sf, left0, ps0, rfl, ch11, P6.known hu0 e1 f2 pp, gr6.trans (grow_below pp.grow), em6, st11, ((b7.trans (But.of s8)).trans (But.of s10)).trans (b11'.more subd), hl11, Paired.mapP tp7 fun y z ⟨t, w1, w2⟩ => ⟨t, tupk (s10 _ _ (s8 _ _ w1)), tupk (s10 _ _ (s8 _ _ w2))⟩, by omega⟩, ?_⟩
            rw [lenLK_eq hl11, List.length_map]
            have hg11 : H11 g = some (.dK kg7) := by
              have hg10 := s10 _ _ hkg9
              refine b11' _ _ hg10 fun z => ?_
              rcases kinds ch10 z with ⟨ks, y, q⟩ | ⟨zs, y, _⟩
              · obtain ⟨ndg, ndb, ngb⟩ := List.nodup_append.mp nd
                rcases List.mem_append.mp q with q | q
                · obtain ⟨j, hj⟩ := List.getElem?_of_mem q
                  rw [List.getElem?_drop] at hj
                  have := get_inj ndg hg hj
                  omega
                · exact ngb g (List.mem_of_getElem? hg) g (List.mem_of_mem_drop q) rfl
              · rw [hg10] at y; cases y
            rw [lenDK_eq hg11, lenDK_eq hkg7]
            omega
      · rintro σ' H6 R R' hR ⟨w0, h0, k0, t0, r0⟩
        exact ⟨w0, h0, k0, t0, hR _ _ r0⟩
end
end Toy

-- part: LCG
namespace Toy
open PySem L2
/-! ### a comprehension, whatever it goes over, told by what its items are -/
/-- all but these stays -/
def ButL (xs : List Addr) (H H' : Hp) : Prop := ∀ a o, H a = some o → a ∉ xs → H' a = some o
theorem ButL.refl {xs : List Addr} {H : Hp} : ButL xs H H := fun _ _ h _ => h
theorem ButL.trans {xs : List Addr} {H H1 H2 : Hp} (a : ButL xs H H1) (b : ButL xs H1 H2) : ButL xs H H2 := fun c o h n => b c o (a c o h n) n
theorem ButL.of {xs : List Addr} {H H' : Hp} (e : Same H H') : ButL xs H H' := fun a o h _ => e a o h
theorem ButL.same {H H' : Hp} (e : ButL [] H H') : Same H H' := fun a o h => e a o h fun z => nomatch z
theorem ButL.more {xs ys : List Addr} {H H' : Hp} (h : ∀ a ∈ xs, a ∈ ys) (b : ButL xs H H') : ButL ys H H' := fun a o ha n => b a o ha fun z => n (h a z)
theorem ButL.at {xs : List Addr} {H : Hp} {a : Addr} {o : HO} (h : a ∈ xs) : ButL xs H (upd H a o) := fun b u hb n => by rw [upd_ne (fun z => n (by rw [z]; exact h))]; exact hb
theorem ButL.new {xs : List Addr} {H : Hp} {a : Addr} {o : HO} (h : H a = none) : ButL xs H (upd H a o) := .of (Same.new h)
theorem ButL.up {xs : List Addr} {H H' : Hp} {a : Addr} {o : HO} (b : ButL xs H H') (h : H a = none) : ButL xs H (upd H' a o) := fun c u hc n => by rw [upd_ne (fun z => by rw [z, h] at hc; cases hc)]; exact b c u hc n
theorem ButL.none {xs : List Addr} {H H' : Hp} {a : Addr} (b : ButL xs H H') (h : H' a = Option.none) (n : a ∉ xs) : H a = Option.none := by
  cases e : H a with
  | none => rfl
  | some o => rw [b a o e n] at h; cases h
theorem pairImp {α β : Type} {R S : α → β → Prop} : ∀ {a : List α} {b : List β}, Paired R a b → (∀ x y, R x y → S x y) → Paired S a b
  | _, _, .nil, _ => .nil
  | _, _, .cons h t, f => .cons (f _ _ h) (pairImp t f)
theorem pairSnoc {α β : Type} {R : α → β → Prop} {x : α} {y : β} : ∀ {a : List α} {b : List β}, Paired R a b → R x y → Paired R (a ++ [x]) (b ++ [y])
  | _, _, .nil, h => .cons h .nil
  | _, _, .cons h t, q => .cons h (pairSnoc t q)
theorem pairLn {α β : Type} {R : α → β → Prop} : ∀ {a : List α} {b : List β}, Paired R a b → a.length = b.length
  | _, _, .nil => rfl
  | _, _, .cons _ t => congrArg Nat.succ (pairLn t)
theorem Same.nn {H H' : Hp} {a : Addr} (e : Same H H') (h : H' a = none) : H a = none := by
  cases z : H a with
  | none => rfl
  | some o => rw [e _ _ z] at h; cases h
theorem Same.upN {H H' : Hp} {a : Addr} {o : HO} (e : Same H H') (n : H a = none) : Same H (upd H' a o) := fun c u hc => by rw [upd_ne (fun z => by rw [z, n] at hc; cases hc)]; exact e c u hc
section
variable {J : It} {n : Nat} {G : Hp → Prop} {Y : Nat → Hp → V → Hp → Prop} {α : Type}
theorem lc_gen (wk : Walk J n G Y) {R : α → V → Hp → Prop} {I : Hp → Prop} {zs : List Addr} {xs : List α} {kp : α → Bool} {g : TG} {tt : TT} {te : TE} {vs : List Nat} {σ : St} {H0 : Hp} {D : Addr} {Qd : Hp → Prop}
    (hn : xs.length = n) (hz : xs.length < sizeLine) (hD : H0 D = none) (zD : D ∉ zs) (hI0 : I H0) (hI : ∀ H H', ButL [D] H H' → I H → I H') (hG : ∀ H, ButL zs H0 H → I H → G H)
    (hs : ∀ i a x H H' (T : VK) (F : Hp → Prop), xs[i]? = some a → ButL zs H0 H → I H → (∃ acc, H D = some (.lst acc)) → Y i H x H' →
      (∀ y H4, kp a = true → ButL zs H H4 → I H4 → (∀ H5, ButL (D :: zs) H4 H5 → R a y H5) → T y H4) → (∀ H4, kp a = false → ButL zs H H4 → I H4 → F H4) →
      g x (wipe σ vs) H' fun σ2 H2 => wipe σ2 vs = wipe σ vs ∧ tt σ2 H2 fun b H3 => if b = true then te σ2 H3 T else F H3)
    (hd : ∀ H' ys, ButL zs H0 H' → I H' → H' D = some (.lst ys) → Paired (fun y a => R a y H') ys (xs.filter kp) → Qd H') :
    ∃ W : Nat → Nat → Hp → Prop, (∃ m, W 0 m (upd H0 D (.lst []))) ∧ ∀ i m H, W i m H →
      (J.stop i H ∧ Qd H) ∨ (J.go i H ∧ ∃ Nx : Hp → Prop, (∀ H', Nx H' → ∃ m', m' < m ∧ W (i + 1) m' H') ∧ ∀ x H', J.yld i H x H' → g x (wipe σ vs) H' fun σ2 H2 => wipe σ2 vs = wipe σ vs ∧ tt σ2 H2 fun b H3 =>
        if b = true then te σ2 H3 fun y H4 => ∃ acc, H4 D = some (.lst acc) ∧ acc.length < sizeLine ∧ Nx (upd H4 D (.lst (acc ++ [y]))) else Nx H3) := by
  refine lc_it wk (fun i H => ButL zs H0 H ∧ I H ∧ ∃ ys, H D = some (.lst ys) ∧ Paired (fun y a => ∀ H5, ButL (D :: zs) H H5 → R a y H5) ys ((xs.take i).filter kp)) ⟨.new hD, hI _ _ (ButL.at List.mem_cons_self) hI0, [], upd_same, .nil⟩ (fun i H _ p => hG H p.1 p.2.1) ?_ ?_
  · rintro i x H H' hi ⟨b, hIH, ys, hy, pr⟩ y
    obtain ⟨a, ha⟩ : ∃ a, xs[i]? = some a := ⟨_, List.getElem?_eq_getElem (by omega)⟩
    have lnt : ((xs.take i).filter kp).length ≤ xs.length := Nat.le_trans (List.length_filter_le _ _) (by rw [List.length_take]; omega)
    have ly := pairLn pr
    refine hs i a x H H' _ _ ha b hIH ⟨ys, hy⟩ y (fun v H4 ka b4 i4 r4 => ⟨ys, b4 _ _ hy zD, by omega, ?_, hI _ _ (ButL.at List.mem_cons_self) i4, ys ++ [v], upd_same, ?_⟩) (fun H4 ka b4 i4 => ⟨b.trans b4, i4, ys, b4 _ _ hy zD, ?_⟩)
    · exact fun c o hc nz => by
        rw [upd_ne (fun z => by rw [z, hD] at hc; cases hc)]
        exact b4 _ _ (b _ _ hc nz) nz
    · rw [List.take_add_one, ha]
      simp only [Option.toList_some, List.filter_append]
      have e : [a].filter kp = [a] := by rw [List.filter_cons, if_pos ka]; rfl
      rw [e]
      exact pairSnoc (pairImp pr fun y a h H5 b5 => h H5 (((b4.more fun _ h => List.mem_cons_of_mem _ h).trans (ButL.at List.mem_cons_self)).trans b5)) fun H5 b5 => r4 H5 ((ButL.at List.mem_cons_self).trans b5)
    · rw [List.take_add_one, ha]
      simp only [Option.toList_some, List.filter_append]
      have e : [a].filter kp = [] := by rw [List.filter_cons, if_neg (by rw [ka]; exact fun z => nomatch z)]; rfl
      rw [e, List.append_nil]
      exact pairImp pr fun y a h H5 b5 => h H5 ((b4.more fun _ h => List.mem_cons_of_mem _ h).trans b5)
  · rintro H ⟨b, hIH, ys, hy, pr⟩
    rw [← hn, List.take_length] at pr
    exact hd H ys b hIH hy (pairImp pr fun y a h => h H .refl)
/-- all items are kept, and each is a new object -/
theorem lc_new (wk : Walk J n G Y) {R : α → Addr → Hp → Prop} {I : Hp → Prop} {zs : List Addr} {xs : List α} {g : TG} {te : TE} {vs : List Nat} {σ : St} {H0 : Hp} {D : Addr} {Qd : Hp → Prop}
    (hn : xs.length = n) (hz : xs.length < sizeLine) (hD : H0 D = none) (zD : D ∉ zs) (zn : ∀ z ∈ zs, H0 z ≠ none) (hI0 : I H0) (hI : ∀ H H', ButL [D] H H' → I H → I H') (hG : ∀ H, ButL zs H0 H → I H → G H)
    (hs : ∀ i a x H H' (T : VK), xs[i]? = some a → ButL zs H0 H → I H → (∃ acc, H D = some (.lst acc)) → Y i H x H' →
      (∀ p H4, ButL zs H H4 → I H4 → H p = none → (∃ o, H4 p = some o) → (∀ H5, ButL (D :: zs) H4 H5 → R a p H5) → T (.ref p) H4) →
      g x (wipe σ vs) H' fun σ2 H2 => wipe σ2 vs = wipe σ vs ∧ te σ2 H2 T)
    (hzs : ∀ H, ButL zs H0 H → ∀ z ∈ zs, H z ≠ none)
    (hd : ∀ H' ps, ButL zs H0 H' → I H' → H' D = some (.lst (ps.map V.ref)) → ps.Nodup → (∀ p ∈ ps, H0 p = none ∧ p ≠ D) → Paired (fun p a => R a p H') ps xs → Qd H') :
    ∃ W : Nat → Nat → Hp → Prop, (∃ m, W 0 m (upd H0 D (.lst []))) ∧ ∀ i m H, W i m H →
      (J.stop i H ∧ Qd H) ∨ (J.go i H ∧ ∃ Nx : Hp → Prop, (∀ H', Nx H' → ∃ m', m' < m ∧ W (i + 1) m' H') ∧ ∀ x H', J.yld i H x H' → g x (wipe σ vs) H' fun σ2 H2 => wipe σ2 vs = wipe σ vs ∧ tYes σ2 H2 fun b H3 =>
        if b = true then te σ2 H3 fun y H4 => ∃ acc, H4 D = some (.lst acc) ∧ acc.length < sizeLine ∧ Nx (upd H4 D (.lst (acc ++ [y]))) else Nx H3) := by
  refine lc_it wk (fun i H => ButL zs H0 H ∧ I H ∧ ∃ ps : List Addr, H D = some (.lst (ps.map V.ref)) ∧ ps.Nodup ∧ (∀ p ∈ ps, H0 p = none ∧ p ≠ D ∧ p ∉ zs ∧ ∃ o, H p = some o) ∧ Paired (fun p a => ∀ H5, ButL (D :: zs) H H5 → R a p H5) ps (xs.take i)) ⟨.new hD, hI _ _ (ButL.at List.mem_cons_self) hI0, [], upd_same, .nil, fun p hp => (nomatch hp), .nil⟩ (fun i H _ p => hG H p.1 p.2.1) ?_ ?_
  · rintro i x H H' hi ⟨b, hIH, ps, hy, nd, nn, pr⟩ y
    obtain ⟨a, ha⟩ : ∃ a, xs[i]? = some a := ⟨_, List.getElem?_eq_getElem (by omega)⟩
    have lnt : (xs.take i).length ≤ xs.length := by rw [List.length_take]; omega
    have ly := pairLn pr
    have key := hs i a x H H' (fun y H4 => ∃ acc, H4 D = some (.lst acc) ∧ acc.length < sizeLine ∧ (fun i H => ButL zs H0 H ∧ I H ∧ ∃ ps : List Addr, H D = some (.lst (ps.map V.ref)) ∧ ps.Nodup ∧ (∀ p ∈ ps, H0 p = none ∧ p ≠ D ∧ p ∉ zs ∧ ∃ o, H p = some o) ∧ Paired (fun p a => ∀ H5, ButL (D :: zs) H H5 → R a p H5) ps (xs.take i)) (i + 1) (upd H4 D (.lst (acc ++ [y])))) ha b hIH ⟨_, hy⟩ y (fun p H4 b4 i4 pn ⟨o, po⟩ r4 => ⟨_, b4 _ _ hy zD, by rw [List.length_map]; omega, ?_, hI _ _ (ButL.at List.mem_cons_self) i4, ps ++ [p], by rw [upd_same, List.map_append]; rfl, ?_, ?_, ?_⟩)
    · have : ∀ (m : St → Hp → Prop) (m' : St → Hp → Prop), (∀ σ H, m σ H → m' σ H) → True := fun _ _ _ => trivial
      exact key
    · exact fun c o hc nz => by
        rw [upd_ne (fun z => by rw [z, hD] at hc; cases hc)]
        exact b4 _ _ (b _ _ hc nz) nz
    · rw [List.nodup_append]
      refine ⟨nd, by simp, fun q hq r hr e => ?_⟩
      rw [List.mem_singleton.mp hr] at e
      obtain ⟨_, _, _, o', h'⟩ := nn q hq
      rw [e, pn] at h'
      cases h'
    · have pD : p ≠ D := fun z => by rw [z, hy] at pn; cases pn
      intro q hq
      rcases List.mem_append.mp hq with hq | hq
      · obtain ⟨h1, h2, h3, o', h4⟩ := nn q hq
        exact ⟨h1, h2, h3, o', by rw [upd_ne h2]; exact b4 _ _ h4 h3⟩
      · rw [List.mem_singleton.mp hq]
        refine ⟨?_, pD, fun hz => hzs H b p hz pn, o, by rw [upd_ne pD]; exact po⟩
        exact b.none pn fun hz => hzs H b p hz pn
    · rw [List.take_add_one, ha]
      exact pairSnoc (pairImp pr fun y a h H5 b5 => h H5 (((b4.more fun _ h => List.mem_cons_of_mem _ h).trans (ButL.at List.mem_cons_self)).trans b5)) fun H5 b5 => r4 H5 ((ButL.at List.mem_cons_self).trans b5)
  · rintro H ⟨b, hIH, ps, hy, nd, nn, pr⟩
    rw [← hn, List.take_length] at pr
    exact hd H ps b hIH hy nd (fun p hp => ⟨(nn p hp).1, (nn p hp).2.1⟩) (pairImp pr fun y a h => h H .refl)
end
end Toy

-- part: KC3
namespace Toy
open PySem L2
section
variable {P : Program} {w : World} {K : PySem.W.Frag} {mg : Str → Option Value} {base : Heap}
/-! ### Chain.put, for any number of floors -/
theorem ok_puN {f fG fO fT fL fH C : Addr} {fd fdG fdO fdT fdL fdH : FuncData} (F : Fun K "put" "Chain.put" sPu f fd) (B : Bl mg) (cl : Cls K C) (na1 : NoAttr K C "letters") (na2 : NoAttr K C "goals") (na3 : NoAttr K C "ways_back") (na4 : NoAttr K C "_made_by")
    (GO : Df K mg "goes" sGoes ["turn", "letter"] fG fdG) (GGo : FnOk P w K mg base CX0 1 fG fdG ["turn", "letter"] (spGoes K)) (ON : Df K mg "led_on" sOn ["turn", "table"] fO fdO) (GOn : FnOk P w K mg base CX0 1 fO fdO ["turn", "table"] (spOn K))
    (TB : Df K mg "table_of" sTab ["turn"] fT fdT) (GTb : FnOk P w K mg base CX0 1 fT fdT ["turn"] (spTab K)) (LB : Df K mg "led_back" sLb ["turn"] fL fdL) (GLb : FnOk P w K mg base CX0 1 fL fdL ["turn"] (spLb K))
    (mHd : Meth K C "holds" fH) (bHd : Binds K fdH ["self", "turn", "at"] []) (GHd : FnOk P w K mg base CX0 2 fH fdH ["self", "turn", "at"] (spHd K C))
    (mPu : Meth K C "put" f) (bPu : Binds K fd ["self", "turn", "at"] []) : ∀ d, FnOk P w K mg base CX0 (d + 3) f fd ["self", "turn", "at"] (spPu K C d)
  | 0 => ⟨fun vs H Q E h => by
      obtain ⟨c, la, ga, wa, ma, gs, bs, ms, lv, n, a, L, i, F', rfl, pre, dl, q⟩ := h
      rfl, fun A outer s H args us vs Q E hr he hb hv h => by
      obtain ⟨c, la, ga, wa, ma, gs, bs, ms, lv, n, a, L, i, F', rfl, pre, dl, q⟩ := h
      have := pre.il
      omega⟩
  | d + 1 => ok_pu F B cl na1 na2 na3 na4 GO GGo ON GOn TB GTb LB GLb mHd bHd GHd mPu bPu (ok_puN F B cl na1 na2 na3 na4 GO GGo ON GOn TB GTb LB GLb mHd bHd GHd mPu bPu d)
/-! ### Chain.__init__ -/
abbrev sCI : Stmt := m_Chain___init__
abbrev nCI : List Str := ["self", "letters", "letter"]
theorem scCI : FnScope nCI ["self", "letters"] (defScope sCI) := ⟨rfl, rfl, rfl, by decide +kernel, rfl, by decide +kernel, by decide +kernel⟩
theorem chF_put (la ga wa ma : Addr) : putF "_made_by" (.ref ma) (putF "ways_back" (.ref wa) (putF "goals" (.ref ga) (putF "letters" (.ref la) []))) = chF la ga wa ma := by rfl
def rLenK (K : PySem.W.Frag) : List V → Hp → VK → Prop := fun xs H Q => ∃ p ys, xs = [.ref p] ∧ (SqL K H p ys ∨ SqT K H p ys) ∧ Q (.int ys.length) H
def tGl (K : PySem.W.Frag) : TE := tDisp [(tVar 2, tCall spStill [] E0 (tCons (tCB (rLenK K) (tCons (tVar 1) tNil)) tNil))]
def tWb (K : PySem.W.Frag) : TE := tDisp [(tVar 2, tCall (spTab K) [] E0 (tCons (tCall spStill [] E0 (tCons (tCB (rLenK K) (tCons (tVar 1) tNil)) tNil)) tNil))]
def spCI (C : Addr) : Sp := fun vs H Q _ => ∃ (c la dx : Addr) (ls : List Int) (n : Nat), vs = [.ref c, .ref la] ∧ H c = some (.ins C dx []) ∧ H la = some (.lst (ls.map V.int)) ∧ ls.length = n ∧ 1 ≤ n ∧ n ≤ 400 ∧ 
  ∀ (ga wa ma : Addr) (gs bs ms : List Addr) (H' : Hp), ChAt C H' n c la ga wa ma gs bs ms (initV n ls) → (gs ++ bs).Nodup → (la :: ga :: wa :: ma :: ms).Nodup → (∀ x ∈ ga :: wa :: ma :: (gs ++ bs ++ ms), H x = none) → ButL [c] H H' → Q .non H'
theorem ok_ci {f fS fT C : Addr} {fd fdS fdT : FuncData} (F : Fun K "__init__" "Chain.__init__" sCI f fd) (B : Bl mg) (cl : Cls K C) (na1 : NoAttr K C "letters") (na2 : NoAttr K C "goals") (na3 : NoAttr K C "ways_back") (na4 : NoAttr K C "_made_by")
    (ST : Df K mg "still" sStill ["many"] fS fdS) (TB : Df K mg "table_of" sTab ["turn"] fT fdT) : FnOk P w K mg base CX0 2 f fd ["self", "letters"] (spCI C) := by
  have GS : FnOk P w K mg base CX0 1 fS fdS ["many"] spStill := ok_still ST.F B
  have GT : FnOk P w K mg base CX0 1 fT fdT ["turn"] (spTab K) := ok_tab TB.F B
  refine F.ok scCI (fun vs H Q E h => ?_) (fun cdv A outer s H vs Q E hr h => ?_)
  · obtain ⟨c, la, dx, ls, n, rfl, _⟩ := h
    rfl
  · obtain ⟨c, la, dx, ls, n, rfl, hc, hla, ln, n1, n4, q⟩ := h
    have hu := hu_of hr
    refine ⟨_, pss_cons (ps_fld (pv 0) (pv 1) rfl)
      (pss_cons (ps_fld (pv 0) (pe_lc (own := [("letter", 2)]) (g := gName 2) (tt := tYes) (te := tGl K) rfl scCI.nd (pi_list (pv 1)) (blkOk_by (own := [("letter", 2)]) (N := nCI) (sc := defScope sCI) (by decide +kernel)) (fun _ _ _ _ _ => pg_name (i := 2) scCI.nd rfl (Or.inl rfl)) (fun _ _ _ _ _ => pts_nil) (fun _ _ _ _ _ => pe_disp (pps_cons (pv 2) (pe_call GS hr rfl ST.g ST.F.kp ST.b .nil pass0 (pa_cons (pe_callB call_len_seq (by rfl) B.len PySem.boot_len (pa_cons (pv 1) pa_nil)) pa_nil)) pps_nil) (by rfl) (by rfl) (fun z => by cases z) (by decide))) rfl)
      (pss_cons (ps_fld (pv 0) (pe_lc (own := [("letter", 2)]) (g := gName 2) (tt := tYes) (te := tWb K) rfl scCI.nd (pi_list (pv 1)) (blkOk_by (own := [("letter", 2)]) (N := nCI) (sc := defScope sCI) (by decide +kernel)) (fun _ _ _ _ _ => pg_name (i := 2) scCI.nd rfl (Or.inl rfl)) (fun _ _ _ _ _ => pts_nil) (fun _ _ _ _ _ => pe_disp (pps_cons (pv 2) (pe_call GT hr rfl TB.g TB.F.kp TB.b .nil pass0 (pa_cons (pe_call GS hr rfl ST.g ST.F.kp ST.b .nil pass0 (pa_cons (pe_callB call_len_seq (by rfl) B.len PySem.boot_len (pa_cons (pv 1) pa_nil)) pa_nil)) pa_nil)) pps_nil) (by rfl) (by rfl) (fun z => by cases z) (by decide))) rfl)
      (pss_one (ps_fld (pv 0) (pe_lc (own := [("letter", 2)]) (g := gName 2) (tt := tYes) (te := tLst tNil) rfl scCI.nd (pi_list (pv 1)) (blkOk_by (own := [("letter", 2)]) (N := nCI) (sc := defScope sCI) (by decide +kernel)) (fun _ _ _ _ _ => pg_name (i := 2) scCI.nd rfl (Or.inl rfl)) (fun _ _ _ _ _ => pts_nil) (fun _ _ _ _ _ => pe_lst pa_nil)) rfl)))), ?_⟩
    show tSeq _ _ _ [some (.ref c), some (.ref la), none] H
    have eZ : sizeLine = 16777216 := rfl
    have lz : ls.length < sizeLine := by omega
    have lmz : (ls.map V.int).length = ls.length := List.length_map _
    have un : up n ≠ [] := fun z => by have := up_len n; rw [z] at this; simp at this; omega
    have two : ∀ {H : Hp} {y p : Addr} {kvs : List (Key × V)}, H p = some (.dK kvs) → ∀ {xs : List V}, H y = some (.tup xs) → y ≠ p := fun h xs h2 z => by rw [z, h] at h2; cases h2
    -- letters
    refine seq_gen (fun σ' H' => σ' = [some (.ref c), some (.ref la), none] ∧ H' = upd H c (.ins C dx (putF "letters" (.ref la) []))) (fun nx hnx => ?_) ?_
    · exact ⟨_, rfl, _, rfl, c, C, dx, _, rfl, hc, cl, na1, (by show 0 < 1000; decide), hnx _ _ ⟨rfl, rfl⟩⟩
    rintro σ1 H1' ⟨rfl, rfl⟩
    have nlc : la ≠ c := fun z => by rw [z, hc] at hla; cases hla
    have b1 : ButL [c] H (upd H c (.ins C dx (putF "letters" (.ref la) []))) := ButL.at List.mem_cons_self
    have hc1 : upd H c (.ins C dx (putF "letters" (.ref la) [])) c = some (.ins C dx (putF "letters" (.ref la) [])) := upd_same
    have hla1 := b1 _ _ hla fun z => nlc (List.mem_singleton.mp z)
    generalize upd H c (.ins C dx (putF "letters" (.ref la) [])) = H1 at b1 hc1 hla1
    -- goals
    refine seq_gen (fun σ' H' => σ' = [some (.ref c), some (.ref la), none] ∧ ∃ (ga : Addr) (gs : List Addr), H1 ga = none ∧ H' c = some (.ins C dx (putF "goals" (.ref ga) (putF "letters" (.ref la) []))) ∧ ButL [c] H1 H' ∧ H' ga = some (.lst (gs.map V.ref)) ∧ gs.Nodup ∧ (∀ p ∈ gs, H1 p = none ∧ p ≠ ga) ∧ Paired (fun p (a : Int) => ∃ t, H' p = some (.dK [(.inl a, .ref t)]) ∧ H' t = some (.tup ((up n).map V.int))) gs ls) (fun nx hnx => ?_) ?_
    · refine ⟨_, rfl, la, rfl, ⟨_, SqL.of hla1⟩, fun D hD => lc_new (walk_list (K := K) (a := la) (xs := ls.map V.int)) (R := fun (a : Int) p H' => ∃ t, H' p = some (.dK [(.inl a, .ref t)]) ∧ H' t = some (.tup ((up n).map V.int)) ∧ p ≠ c ∧ t ≠ c) (I := fun _ => True) (zs := []) (xs := ls) lmz.symm lz hD (fun z => nomatch z) (fun z hz => nomatch hz) trivial (fun _ _ _ _ => trivial) (fun H2 b _ => SqL.of (b _ _ hla1 fun z => nomatch z)) ?_ (fun _ _ z hz => nomatch hz) ?_⟩
      · rintro i a x Hz H2 T ha b2 _ ⟨acc, hacc⟩ ⟨rfl, hx⟩ hT
        rw [List.getElem?_map, ha] at hx
        cases hx
        refine ⟨rfl, ?_⟩
        show tGl K [some (.ref c), some (.ref la), some (.int a)] _ _
        have hla2 := b2 _ _ hla1 fun z => nomatch z
        intro p hp
        have pc : p ≠ c := fun z => by have := b2 _ _ hc1 fun z => nomatch z; rw [← z, hp] at this; cases this
        refine ⟨_, rfl, _, rfl, la, _, rfl, .inl (SqL.of (Same.new hp _ _ hla2)), ((ls.map V.int).length : Int), rfl, by omega, by omega, fun t H3 s3 ht => ?_⟩
        rw [show ((ls.map V.int).length : Int).toNat = n by omega] at ht
        have hp3 := s3 _ _ (upd_same (H := H2) (a := p) (o := .dK []))
        have tp := two hp3 ht
        refine ⟨hp3, [(.inl a, .ref t)], rfl, by show 1 ≤ 15; decide, hT p _ ?_ trivial hp ⟨_, upd_same⟩ fun H5 b5 => ⟨t, ?_, ?_, pc, ?_⟩⟩
        · exact .of fun x o hx => by
            rw [upd_ne (fun z => by rw [z, hp] at hx; cases hx)]
            exact s3 _ _ (Same.new hp _ _ hx)
        · refine b5 _ _ ?_ fun z => ?_
          · rw [upd_same]; rfl
          · rw [List.mem_singleton.mp z, hacc] at hp; cases hp
        · refine b5 _ _ (by rw [upd_ne tp]; exact ht) fun z => ?_
          rw [List.mem_singleton.mp z] at ht
          have := s3 _ _ (Same.new hp _ _ hacc)
          rw [ht] at this
          cases this
        · intro z
          have := s3 _ _ (Same.new hp _ _ (b2 _ _ hc1 fun z => nomatch z))
          rw [← z, ht] at this
          cases this
      · rintro H2 gs b2 _ hD2 nd nn pr
        have hc2 := b2 _ _ hc1 fun z => nomatch z
        refine ⟨_, rfl, c, C, dx, _, rfl, hc2, cl, na2, (by show 1 < 1000; decide), hnx _ _ ⟨rfl, D, gs, hD, upd_same, ?_, ?_, nd, nn, pairImp pr fun p a ⟨t, h1, h2, h3, h4⟩ => ⟨t, by rw [upd_ne h3]; exact h1, by rw [upd_ne h4]; exact h2⟩⟩⟩
        · exact (ButL.of b2.same).trans (ButL.at List.mem_cons_self)
        · rw [upd_ne (fun z => by rw [z, hc2] at hD2; cases hD2)]; exact hD2
    rintro σ2 H2 ⟨rfl, ga, gs, nga, hc2, b2, hga, ndg, nng, prg⟩
    have hla2 := b2 _ _ hla1 fun z => nlc (List.mem_singleton.mp z)
    -- ways back
    refine seq_gen (fun σ' H' => σ' = [some (.ref c), some (.ref la), none] ∧ ∃ (wa : Addr) (bs : List Addr), H2 wa = none ∧ H' c = some (.ins C dx (putF "ways_back" (.ref wa) (putF "goals" (.ref ga) (putF "letters" (.ref la) [])))) ∧ ButL [c] H2 H' ∧ H' wa = some (.lst (bs.map V.ref)) ∧ bs.Nodup ∧ (∀ p ∈ bs, H2 p = none ∧ p ≠ wa) ∧ Paired (fun p (a : Int) => ∃ t, H' p = some (.dK [(.inl a, .ref t)]) ∧ H' t = some (.tup ((tabL (up n)).map V.int))) bs ls) (fun nx hnx => ?_) ?_
    · refine ⟨_, rfl, la, rfl, ⟨_, SqL.of hla2⟩, fun D hD => lc_new (walk_list (K := K) (a := la) (xs := ls.map V.int)) (R := fun (a : Int) p H' => ∃ t, H' p = some (.dK [(.inl a, .ref t)]) ∧ H' t = some (.tup ((tabL (up n)).map V.int)) ∧ p ≠ c ∧ t ≠ c) (I := fun _ => True) (zs := []) (xs := ls) lmz.symm lz hD (fun z => nomatch z) (fun z hz => nomatch hz) trivial (fun _ _ _ _ => trivial) (fun H8 b8 _ => SqL.of (b8 _ _ hla2 fun z => nomatch z)) ?_ (fun _ _ z hz => nomatch hz) ?_⟩
      · rintro i a x Hz H8 T ha b8 _ ⟨acc, hacc⟩ ⟨rfl, hx⟩ hT
        rw [List.getElem?_map, ha] at hx
        cases hx
        refine ⟨rfl, ?_⟩
        show tWb K [some (.ref c), some (.ref la), some (.int a)] _ _
        have hla8 := b8 _ _ hla2 fun z => nomatch z
        intro p hp
        have pc : p ≠ c := fun z => by have := b8 _ _ hc2 fun z => nomatch z; rw [← z, hp] at this; cases this
        refine ⟨_, rfl, _, rfl, la, _, rfl, .inl (SqL.of (Same.new hp _ _ hla8)), ((ls.map V.int).length : Int), rfl, by omega, by omega, fun t0 H30 s30 ht0 => ?_⟩
        rw [show ((ls.map V.int).length : Int).toNat = n by omega] at ht0
        refine ⟨t0, up n, rfl, SqT.of ht0, un, by rw [up_len]; exact n4, fun t H3 s31 ht => ?_⟩
        have s3 := Same.trans s30 s31
        have hp3 := s3 _ _ (upd_same (H := H8) (a := p) (o := .dK []))
        have tp := two hp3 ht
        refine ⟨hp3, [(.inl a, .ref t)], rfl, by show 1 ≤ 15; decide, hT p _ ?_ trivial hp ⟨_, upd_same⟩ fun H5 b5 => ⟨t, ?_, ?_, pc, ?_⟩⟩
        · exact .of fun x o hx => by
            rw [upd_ne (fun z => by rw [z, hp] at hx; cases hx)]
            exact s3 _ _ (Same.new hp _ _ hx)
        · refine b5 _ _ ?_ fun z => ?_
          · rw [upd_same]; rfl
          · rw [List.mem_singleton.mp z, hacc] at hp; cases hp
        · refine b5 _ _ (by rw [upd_ne tp]; exact ht) fun z => ?_
          rw [List.mem_singleton.mp z] at ht
          have := s3 _ _ (Same.new hp _ _ hacc)
          rw [ht] at this
          cases this
        · intro z
          have := s3 _ _ (Same.new hp _ _ (b8 _ _ hc2 fun z => nomatch z))
          rw [← z, ht] at this
          cases this
      · rintro H8 gs b8 _ hD2 nd nn pr
        have hc8 := b8 _ _ hc2 fun z => nomatch z
        refine ⟨_, rfl, c, C, dx, _, rfl, hc8, cl, na3, (by show 2 < 1000; decide), hnx _ _ ⟨rfl, D, gs, hD, upd_same, ?_, ?_, nd, nn, pairImp pr fun p a ⟨t, h1, h2, h3, h4⟩ => ⟨t, by rw [upd_ne h3]; exact h1, by rw [upd_ne h4]; exact h2⟩⟩⟩
        · exact (ButL.of b8.same).trans (ButL.at List.mem_cons_self)
        · rw [upd_ne (fun z => by rw [z, hc8] at hD2; cases hD2)]; exact hD2
    rintro σ3 H3 ⟨rfl, wa, bs, nwa, hc3, b3, hwa, ndb, nnb, prb⟩
    have hla3 := b3 _ _ hla2 fun z => nlc (List.mem_singleton.mp z)
    -- makers
    have key : ∀ (H4 : Hp) (ma : Addr) (ms : List Addr), H3 ma = none → H4 c = some (.ins C dx (chF la ga wa ma)) → ButL [c] H3 H4 → H4 ma = some (.lst (ms.map V.ref)) → ms.Nodup → (∀ p ∈ ms, H3 p = none ∧ p ≠ ma) → Paired (fun p (a : Int) => H4 p = some (.lst [])) ms ls → Q .non H4 := by
      intro H4 ma ms nma hc4 b4 hma ndm nnm prm
      have nc : ∀ {Ha Hb : Hp} {x : Addr} {o : HO}, ButL [c] Ha Hb → Hb c = some o → Hb x = none → Ha x = none := fun b h n => b.none n fun z => by rw [List.mem_singleton.mp z, h] at n; cases n
      have ne2 : ∀ {Ha : Hp} {x y : Addr} {o : HO}, Ha x = some o → Ha y = none → x ≠ y := fun h n z => by rw [z, n] at h; cases h
      have up2 : ∀ {Ha Hb : Hp} {x : Addr} {o : HO}, ButL [c] Ha Hb → (∀ f, o ≠ .ins C dx f) → (∃ f, Ha c = some (.ins C dx f)) → Ha x = some o → Hb x = some o := fun b ni ⟨f, hf⟩ h => b _ _ h fun z => by rw [List.mem_singleton.mp z, hf] at h; exact ni _ (Option.some.inj h).symm
      have hga3 := up2 b3 (fun f z => by cases z) ⟨_, hc2⟩ hga
      have hga4 := up2 b4 (fun f z => by cases z) ⟨_, hc3⟩ hga3
      have hwa4 := up2 b4 (fun f z => by cases z) ⟨_, hc3⟩ hwa
      have hla4 := up2 b4 (fun f z => by cases z) ⟨_, hc3⟩ hla3
      have prg4 : Paired (fun (p : Addr) (a : Int) => ∃ t : Addr, H4 p = some (.dK [(.inl a, .ref t)]) ∧ H4 t = some (.tup ((up n).map V.int))) gs ls := pairImp prg fun p a ⟨t, h1, h2⟩ => ⟨t, up2 b4 (fun f z => by cases z) ⟨_, hc3⟩ (up2 b3 (fun f z => by cases z) ⟨_, hc2⟩ h1), up2 b4 (fun f z => by cases z) ⟨_, hc3⟩ (up2 b3 (fun f z => by cases z) ⟨_, hc2⟩ h2)⟩
      have prb4 : Paired (fun (p : Addr) (a : Int) => ∃ t : Addr, H4 p = some (.dK [(.inl a, .ref t)]) ∧ H4 t = some (.tup ((tabL (up n)).map V.int))) bs ls := pairImp prb fun p a ⟨t, h1, h2⟩ => ⟨t, up2 b4 (fun f z => by cases z) ⟨_, hc3⟩ h1, up2 b4 (fun f z => by cases z) ⟨_, hc3⟩ h2⟩
      have lvl : (initV n ls).length = ls.length := List.length_map _
      have lg := pairLn prg
      have lb := pairLn prb
      have lm := pairLn prm
      have ng1 : ∀ p ∈ gs, H1 p = none := fun p hp => (nng p hp).1
      have nb1 : ∀ p ∈ bs, H1 p = none := fun p hp => nc b2 hc2 (nnb p hp).1
      have nm1 : ∀ p ∈ ms, H1 p = none := fun p hp => nc b2 hc2 (nc b3 hc3 (nnm p hp).1)
      have inP : ∀ {α β : Type} {R : α → β → Prop} {a : List α} {b : List β}, Paired R a b → ∀ x ∈ a, ∃ y, R x y := by
        intro α β R a b h
        induction h with
        | nil =>
          intro x hx
          exact (nomatch hx)
        | cons h _ ih =>
          intro x hx
          rcases List.mem_cons.mp hx with rfl | hx
          · exact ⟨_, h⟩
          · exact ih x hx
      refine q ga wa ma gs bs ms H4 ⟨⟨dx, hc4⟩, ?_, hga4, hwa4, hma, by rw [lvl]; exact lg, by rw [lvl]; exact lb, by rw [lvl]; exact lm, fun i g b m v hg hb hm hv => ?_⟩ ?_ ?_ ?_ (b1.trans (b2.trans (b3.trans b4)))
      · have : (initV n ls).map (·.pt) = ls := by unfold initV; rw [List.map_map]; exact (List.map_congr_left fun _ _ => rfl).trans (List.map_id _)
        rw [this]
        exact hla4
      · obtain ⟨a, ha, rfl⟩ : ∃ a, ls[i]? = some a ∧ v = ⟨a, [(a, up n)], []⟩ := by
          unfold initV at hv
          rw [List.getElem?_map] at hv
          cases h : ls[i]? with
          | none => rw [h] at hv; cases hv
          | some a => rw [h] at hv; exact ⟨a, rfl, (Option.some.inj hv).symm⟩
        obtain ⟨a1, e1, t1, x1, y1⟩ := pairGetK prg4 hg
        obtain ⟨a2, e2, t2, x2, y2⟩ := pairGetK prb4 hb
        obtain ⟨a3, e3, x3⟩ := pairGetK prm hm
        rw [ha] at e1 e2
        cases e1
        cases e2
        refine ⟨⟨_, x1, .cons ⟨rfl, t1, rfl, y1⟩ .nil⟩, ⟨_, x2, Nat.le_refl _, fun k u hk => ?_⟩, ⟨[], x3, .nil⟩⟩
        have := List.mem_singleton.mp (look_mem (show List.lookup k [(a, up n)] = some u from hk))
        cases this
        exact ⟨t2, up n, valV_pos rfl, bk_one n, y2⟩
      · rw [List.nodup_append]
        refine ⟨ndg, ndb, fun x hx y hy => ?_⟩
        obtain ⟨a, t, h1, _⟩ := inP prg x hx
        exact ne2 h1 (nnb y hy).1
      · have l1 : la ≠ ga := ne2 hla1 nga
        have l2 : la ≠ wa := ne2 hla2 nwa
        have l3 : la ≠ ma := ne2 hla3 nma
        have l4 : ga ≠ wa := ne2 hga nwa
        have l5 : ga ≠ ma := ne2 hga3 nma
        have l6 : wa ≠ ma := ne2 hwa nma
        simp only [List.nodup_cons, List.mem_cons, not_or]
        exact ⟨⟨l1, l2, l3, fun h => ne2 hla3 (nnm _ h).1 rfl⟩, ⟨l4, l5, fun h => ne2 hga3 (nnm _ h).1 rfl⟩, ⟨l6, fun h => ne2 hwa (nnm _ h).1 rfl⟩, fun h => (nnm _ h).2 rfl, ndm⟩
      · intro x hx
        simp only [List.mem_cons, List.mem_append] at hx
        refine nc b1 hc1 ?_
        rcases hx with rfl | rfl | rfl | (hx | hx) | hx
        · exact nga
        · exact nc b2 hc2 nwa
        · exact nc b2 hc2 (nc b3 hc3 nma)
        · exact ng1 x hx
        · exact nb1 x hx
        · exact nm1 x hx
    refine ⟨_, rfl, la, rfl, ⟨_, SqL.of hla3⟩, fun D hD => lc_new (walk_list (K := K) (a := la) (xs := ls.map V.int)) (R := fun (a : Int) p H' => H' p = some (.lst []) ∧ p ≠ c) (I := fun _ => True) (zs := []) (xs := ls) lmz.symm lz hD (fun z => nomatch z) (fun z hz => nomatch hz) trivial (fun _ _ _ _ => trivial) (fun H8 b8 _ => SqL.of (b8 _ _ hla3 fun z => nomatch z)) ?_ (fun _ _ z hz => nomatch hz) ?_⟩
    · rintro i a x Hz H8 T ha b8 _ ⟨acc, hacc⟩ ⟨rfl, hx⟩ hT
      rw [List.getElem?_map, ha] at hx
      cases hx
      refine ⟨rfl, Nat.zero_le _, fun p hp => ?_⟩
      have pc : p ≠ c := fun z => by have := b8 _ _ hc3 fun z => nomatch z; rw [← z, hp] at this; cases this
      refine hT p _ (ButL.new hp) trivial hp ⟨_, upd_same⟩ fun H5 b5 => ⟨b5 _ _ upd_same fun z => ?_, pc⟩
      rw [List.mem_singleton.mp z, hacc] at hp; cases hp
    · rintro H8 gs b8 _ hD2 nd nn pr
      have hc8 := b8 _ _ hc3 fun z => nomatch z
      refine ⟨_, rfl, c, C, dx, _, rfl, hc8, cl, na4, (by show 3 < 1000; decide), key _ D gs hD (by rw [upd_same, chF_put]) ?_ ?_ nd nn (pairImp pr fun p a ⟨h1, h3⟩ => by rw [upd_ne h3]; exact h1)⟩
      · exact (ButL.of b8.same).trans (ButL.at List.mem_cons_self)
      · rw [upd_ne (fun z => by rw [z, hc8] at hD2; cases hD2)]; exact hD2
end
end Toy

-- part: DC1
/-! dict comprehensions whose keys are tuples (or, by the same rule, ints and texts): what is written is DPut -/
namespace L2
open PySem PySem.Spec PyProof.Rows
section
variable {X : Cx}
/-- the first thing a dict comprehension makes: an empty dict of either kind -/
def Bare (o : HO) : Prop := o = .dK [] ∨ o = .dT []
theorem bare_ok {P : Program} {w : World} {H : Hp} {o : HO} (b : Bare o) (h : Heap) (hb : sysModules < h.objs.size) : ObjOk P w H (h.push { cls := .type "dict", data := .dict #[] }) h.objs.size o := by
  rcases b with rfl | rfl
  · exact dk_empty h hb
  · exact dt_empty h hb
theorem set_put {pins : List (Addr × Obj)} {σ : St} {H H' : Hp} {s : Shared} {E : Value → Shared → Prop} {D : Addr} {y v : V} {u r : Value} {Q : Unit → Shared → Prop} (hu : X.A.units < cLine) (I : Inv X pins σ H s) (g : DPut H D y v H') (ry : RelV y u) (rv : RelV v r)
    (h : ∀ s', Inv X pins σ H' s' → Q () s') : wpAny (model X.prog X.w) X.A (dictSet D u r) Q E s := by
  rcases g with ⟨kvs, k, e, rfl, l, rfl⟩ | ⟨kvs, k, b, e, rfl, eb, l, rfl⟩
  · exact d_dictSet I e l ry rv h
  · cases (show u = Value.ref b from ry)
    obtain ⟨z, hd, xs, rel, dd⟩ := dt_of I.hok e
    have hz : xs.length ≤ sizeLine := by rw [← Paired.length rel]; exact z
    have hl : (putK kvs k v).length ≤ sizeLine := Nat.le_trans (length_putK kvs k v) l
    refine wpAny_dictSet_heap (hsz := hz) (knd := tupleKind (mixKind X.prog X.w)) hu (key_of I.hok eb) dd fun h' ⟨o, es, ep, ho, h2, h3, h4, _, h5⟩ sb => h _ ?_
    refine d_write I (by rw [e]; exact True.intro) sb ⟨o, ho⟩ ⟨hl, hd, _, (rel.put k eb rv).keeps fun c ys ec => ?_, o, es, ep, ho, h2, h3, h4, h5⟩
    rw [upd_ne (ne_of ec e (fun z => nomatch z))]
    exact ec
def tDcG (o : HO) (wi : TI) (g : TG) (tt : TT) (tk tv : TE) (vs : List Nat) : TE := fun σ H Q => wi σ H fun J H1 => ∀ D, H1 D = none → ∃ W : Nat → Nat → Hp → Prop, (∃ m, W 0 m (upd H1 D o)) ∧ ∀ i m H, W i m H →
  (J.stop i H ∧ Q (.ref D) H) ∨ (J.go i H ∧ ∃ Nx : Hp → Prop, (∀ H', Nx H' → ∃ m', m' < m ∧ W (i + 1) m' H') ∧ ∀ x H', J.yld i H x H' → g x (wipe σ vs) H' fun σ2 H2 => wipe σ2 vs = wipe σ vs ∧ tt σ2 H2 fun b H3 =>
    if b = true then tk σ2 H3 fun y H4 => tv σ2 H4 fun z H5 => ∃ H6, DPut H5 D y z H6 ∧ Nx H6 else Nx H3)
theorem pe_dcG {o : HO} (bare : Bare o) (hu : X.A.units < cLine) {kx vx tg iter : Expr} {ifs : List Expr} {scope : Scope} {own : List (Str × Nat)} {pos : Pos} {wi : TI} {g : TG} {tt : TT} {tk tv : TE} (hc : X.calm = true) (hN : X.N.Nodup) (hi : PI X tg iter wi) (ok : BlkOk X.N X.env.scope scope own)
    (hg : ∀ (s : Shared) (H : Hp) (C : Addr) (cl : List (Str × Addr)) (fp : List Addr), PG (X.blk s H scope (compEnvC scope cl C X.env) fp) tg g) (ht : ∀ (s : Shared) (H : Hp) (C : Addr) (cl : List (Str × Addr)) (fp : List Addr), PTs (X.blk s H scope (compEnvC scope cl C X.env) fp) ifs tt)
    (hk : ∀ (s : Shared) (H : Hp) (C : Addr) (cl : List (Str × Addr)) (fp : List Addr), PE (X.blk s H scope (compEnvC scope cl C X.env) fp) kx tk)
    (he : ∀ (s : Shared) (H : Hp) (C : Addr) (cl : List (Str × Addr)) (fp : List Addr), PE (X.blk s H scope (compEnvC scope cl C X.env) fp) vx tv) (hs : ∀ x, foldedSetIterable iter X.env x = pure x := by intro _; rfl) :
    PE X (.DictComp kx vx [⟨tg, iter, ifs, 0⟩] scope pos) (tDcG o wi g tt tk tv (own.map (·.2))) := by
  refine ⟨fun pins s σ H Q I h => ?_⟩
  have cellsOf : ∀ y ∈ scope.names, y.2 = .free → ∃ c, X.env.cells.lookup y.1 = some c := fun y hy e => I.ok.has _ (ok.free y hy e)
  rw [arm_eval_DictComp]
  refine wpAny_comprehension_free (use := none) rfl hs (closure_ok cellsOf) ok.kind (fun y hy e => by rw [ok.uniq y hy, e]) (thn (hi.run pins s σ H _ I h) fun xv s1 hx => thn hx fun itv s2 ⟨it, fp, tn, J, Hi, eit, Ii, T, sti, fpi, rest⟩ => ?_)
  subst eit
  refine wpAny_newObj_type (newEnv_comp ?_)
  -- the dict at D, as it begins
  have hDn : Hi s2.heap.objs.size = none := Ii.hok.fresh (Nat.le_refl _)
  obtain ⟨W, ⟨m0, w0⟩, turn⟩ := rest _ hDn
  have Id : Inv X pins σ (upd Hi s2.heap.objs.size o) { s2 with heap := s2.heap.push { cls := .type "dict", data := .dict #[] } } := Ii.laid (t' := s2.toks) (fun b o e => Heap.get?_push_of_some _ e) (Nat.le_refl _) (bare_ok bare s2.heap Ii.big)
  have inOld : ∀ b ∈ fp, b < s2.heap.objs.size := fun b hb => (T.obj _ _ sti b hb).elim fun o e => Heap.lt_size e.1
  have fpd : ∀ b ∈ fp, FpOk X pins (upd Hi s2.heap.objs.size o) b ∧ b < (s2.heap.push { cls := .type "dict", data := .dict #[] }).objs.size := fun b hb => by
    have hlt := inOld b hb
    refine ⟨⟨?_, (fpi b hb).2⟩, by rw [Heap.size_push]; exact Nat.lt_succ_of_lt hlt⟩
    rw [upd_ne (Nat.ne_of_lt hlt)]
    exact (fpi b hb).1
  have Ib := block_start Id ok hN fpd
  have stb : tn 0 (pushCells ((s2.heap.push { cls := .type "dict", data := .dict #[] }).push { cls := .type "dict", data := .dict #[] }) scope.names) := T.keep _ _ _ sti fun b _ o e => pushCells_keeps _ _ _ _ (Heap.get?_push_of_some _ (Heap.get?_push_of_some _ e))
  have nob : ∀ b ∈ fp, (upd Hi s2.heap.objs.size o) b = none := fun b hb => (fpd b hb).1.1
  show codeAny _ _ (.compStart (.DictComp kx vx [⟨tg, iter, ifs, 0⟩] scope pos) 0 (.ref it) (.ref s2.heap.objs.size) (compEnvC scope (cellsFrom ((s2.heap.push { cls := .type "dict", data := .dict #[] }).objs.size + 1) scope.names (cloFrom X.env.cells scope.names [])) (s2.heap.push { cls := .type "dict", data := .dict #[] }).objs.size X.env)) (compPost (model X.prog X.w) X.A X.xe none (EP X pins σ Q) (.ref s2.heap.objs.size) (s2.heap.push { cls := .type "dict", data := .dict #[] }).objs.size)
    { s2 with heap := pushCells ((s2.heap.push { cls := .type "dict", data := .dict #[] }).push { cls := .type "dict", data := .dict #[] }) scope.names }
  have pg := hg { s2 with heap := s2.heap.push { cls := .type "dict", data := .dict #[] } } (upd Hi s2.heap.objs.size o) (s2.heap.push { cls := .type "dict", data := .dict #[] }).objs.size (cellsFrom ((s2.heap.push { cls := .type "dict", data := .dict #[] }).objs.size + 1) scope.names (cloFrom X.env.cells scope.names [])) fp
  have pt := ht { s2 with heap := s2.heap.push { cls := .type "dict", data := .dict #[] } } (upd Hi s2.heap.objs.size o) (s2.heap.push { cls := .type "dict", data := .dict #[] }).objs.size (cellsFrom ((s2.heap.push { cls := .type "dict", data := .dict #[] }).objs.size + 1) scope.names (cloFrom X.env.cells scope.names [])) fp
  have pk := hk { s2 with heap := s2.heap.push { cls := .type "dict", data := .dict #[] } } (upd Hi s2.heap.objs.size o) (s2.heap.push { cls := .type "dict", data := .dict #[] }).objs.size (cellsFrom ((s2.heap.push { cls := .type "dict", data := .dict #[] }).objs.size + 1) scope.names (cloFrom X.env.cells scope.names [])) fp
  have pe := he { s2 with heap := s2.heap.push { cls := .type "dict", data := .dict #[] } } (upd Hi s2.heap.objs.size o) (s2.heap.push { cls := .type "dict", data := .dict #[] }).objs.size (cellsFrom ((s2.heap.push { cls := .type "dict", data := .dict #[] }).objs.size + 1) scope.names (cloFrom X.env.cells scope.names [])) fp
  have cL : (compEnvC scope (cellsFrom ((s2.heap.push { cls := .type "dict", data := .dict #[] }).objs.size + 1) scope.names (cloFrom X.env.cells scope.names [])) (s2.heap.push { cls := .type "dict", data := .dict #[] }).objs.size X.env).locals = (s2.heap.push { cls := .type "dict", data := .dict #[] }).objs.size := rfl
  revert Ib pg pt pk pe cL
  generalize (compEnvC scope (cellsFrom ((s2.heap.push { cls := .type "dict", data := .dict #[] }).objs.size + 1) scope.names (cloFrom X.env.cells scope.names [])) (s2.heap.push { cls := .type "dict", data := .dict #[] }).objs.size X.env) = ce
  intro Ib pg pt pk pe cL
  revert Id fpd nob Ib pg pt pk pe w0
  generalize hH0 : upd Hi s2.heap.objs.size o = H0
  intro w0 Id fpd nob Ib pg pt pk pe
  -- what stays with the iterator's own objects
  have own' : ∀ {σ' : St} {H' : Hp} {s' : Shared}, Inv (X.blk { s2 with heap := s2.heap.push { cls := .type "dict", data := .dict #[] } } H0 scope ce fp) [] σ' H' s' → (∀ b ∈ fp, H' b = none) → ∀ b ∈ fp, FpOk (X.blk { s2 with heap := s2.heap.push { cls := .type "dict", data := .dict #[] } } H0 scope ce fp) [] H' b := fun {σ' H' s'} J' hn b hb =>
    ⟨hn b hb, (J'.ok.exf b hb).1, J'.ok.exfs b hb, .inl hb, fun x c e => (J'.ok.exf b hb).2 x c e, fun p hp => nomatch hp⟩
  have loop : codeAny (model X.prog X.w) X.A (.compLoop (.DictComp kx vx [⟨tg, iter, ifs, 0⟩] scope pos) 0 (.ref it) (.ref s2.heap.objs.size) ce) (compPost (model X.prog X.w) X.A X.xe none (EP X pins σ Q) (.ref s2.heap.objs.size) (s2.heap.push { cls := .type "dict", data := .dict #[] }).objs.size)
      { s2 with heap := pushCells ((s2.heap.push { cls := .type "dict", data := .dict #[] }).push { cls := .type "dict", data := .dict #[] }) scope.names } := by
    refine compLoop_anyD (fun m s' => ∃ i H', Inv (X.blk { s2 with heap := s2.heap.push { cls := .type "dict", data := .dict #[] } } H0 scope ce fp) [] (wipe σ (own.map (·.2))) H' s' ∧ tn i s'.heap ∧ (∀ b ∈ fp, H' b = none) ∧ W i m H') ?_ m0 ⟨0, H0, Ib, stb, nob, w0⟩
    rintro m s5 ⟨i, H5, I5, st5, n5, w5⟩
    rcases turn i m H5 w5 with ⟨stop, qq⟩ | ⟨go, Nx, hNx, step⟩
    · refine thnF (T.done (X.blk { s2 with heap := s2.heap.push { cls := .type "dict", data := .dict #[] } } H0 scope ce fp) rfl rfl rfl hc i [] s5 _ H5 (fun _ _ => False) I5 (own' I5 n5) st5 stop) fun r s6 ⟨hr, I6⟩ => ?_
      subst hr
      have I7 : Inv X pins σ H5 s6 := Id.call' (ch := fp) I6.os I6.base I6.hok I6.bare fun b hb => ⟨(fpd b hb).1.2.2.2.1, (fpd b hb).1.2.1, (fpd b hb).1.2.2.2.2.1, (fpd b hb).1.2.2.2.2.2⟩
      obtain ⟨mm, hn, _⟩ := I6.loc
      have nC : H5 (s2.heap.push { cls := .type "dict", data := .dict #[] }).objs.size = none := cL ▸ (show H5 ce.locals = none from I6.free)
      have hn : s6.heap.Ns (s2.heap.push { cls := .type "dict", data := .dict #[] }).objs.size mm := cL ▸ (show s6.heap.Ns ce.locals mm from hn)
      obtain ⟨f0, f1, f2, f3, f4, f5⟩ := Id.fpOk (Nat.le_refl _) nC
      exact ⟨mm, hn, fun h'' sb => ⟨.ref s2.heap.objs.size, H5, I7.turned (t' := s6.toks) (fun b o hb e => (sb.2 b hb).trans e) f0 f1 f3 f4 f5, rfl, qq⟩⟩
    · refine thnF (T.item (X.blk { s2 with heap := s2.heap.push { cls := .type "dict", data := .dict #[] } } H0 scope ce fp) rfl rfl rfl hc i [] s5 _ H5 (fun _ _ => False) I5 (own' I5 n5) st5 go) fun r s6 ⟨u, hr, h6⟩ => ?_
      subst hr
      refine thnF h6 fun _ s7 ⟨x, H7, I7, r7, y7, st7, n7⟩ => ?_
      have I7' := I7.pinned (own' I7 n7) (T.obj _ _ st7)
      refine thnF (pg.run _ s7 _ H7 x u _ I7' r7 (step x H7 y7)) fun _ s8 ⟨σ8, H8, I8, hw8, q8⟩ => ?_
      have next : ∀ {s' : Shared} {H' : Hp}, Inv (X.blk { s2 with heap := s2.heap.push { cls := .type "dict", data := .dict #[] } } H0 scope ce fp) ([] ++ pinsAt fp s7.heap) σ8 H' s' → Nx H' → ∃ m', m' < m ∧ ∃ i H', Inv (X.blk { s2 with heap := s2.heap.push { cls := .type "dict", data := .dict #[] } } H0 scope ce fp) [] (wipe σ (own.map (·.2))) H' s' ∧ tn i s'.heap ∧ (∀ b ∈ fp, H' b = none) ∧ W i m' H' := fun {s' H'} J' nx => by
        obtain ⟨m', hm, w'⟩ := hNx H' nx
        have keep : ∀ b ∈ fp, ∀ o, s7.heap.get? b = some o → s'.heap.get? b = some o ∧ H' b = none := fun b hb o e => let z := J'.pin (b, o) (List.mem_append_right _ (List.mem_append_right _ (mem_pinsAt hb e))); ⟨z.1, z.2.1⟩
        refine ⟨m', hm, i + 1, H', (J'.unpinned (pins := [])).weak (by rw [← hw8, wipe_length]) (fun j v e => ?_), T.keep _ _ _ st7 fun b hb o e => (keep b hb o e).1, fun b hb => (T.obj _ _ st7 b hb).elim fun o e => (keep b hb o e.1).2, w'⟩
        rw [← hw8] at e
        exact (wipe_some e).1
      refine thnF (pt.run _ s8 σ8 H8 _ I8 q8) fun b s9 ⟨H9, I9, q9⟩ => ?_
      cases b with
      | false => exact next I9 q9
      | true =>
        refine thnF (pk.run _ s9 σ8 H9 _ I9 q9) fun z s10 ⟨yk, H10, I10, r10, q10⟩ => ?_
        refine thnF (pe.run _ s10 σ8 H10 _ I10 q10) fun z2 s11 ⟨yv, H11, I11, r11, H12, g, nx⟩ => ?_
        exact set_put (X := X.blk { s2 with heap := s2.heap.push { cls := .type "dict", data := .dict #[] } } H0 scope ce fp) hu I11 g r10 r11 fun s12 I12 => next I12 nx
  exact codeAny_compStart_dict loop (T.self X.A 0 _ _ _ stb loop)
end
end L2

-- part: DCG
namespace Toy
open PySem L2
/-! ### a dict comprehension, whatever it goes over, told by what its items are -/
def dcF {κ α : Type} [DecidableEq κ] (kf : α → κ) (vf : α → V) (l : List α) : List (κ × V) := l.foldl (fun acc a => putK acc (kf a) (vf a)) []
theorem dcF_snoc {κ α : Type} [DecidableEq κ] (kf : α → κ) (vf : α → V) (l : List α) (a : α) : dcF kf vf (l ++ [a]) = putK (dcF kf vf l) (kf a) (vf a) := by
  unfold dcF
  rw [List.foldl_append]
  rfl
theorem dcF_len {κ α : Type} [DecidableEq κ] (kf : α → κ) (vf : α → V) : ∀ n : Nat, ∀ l : List α, l.length = n → (dcF kf vf l).length ≤ n
  | 0, l, h => by rw [List.eq_nil_of_length_eq_zero h]; exact Nat.le_refl _
  | n + 1, l, h => by
    obtain ⟨r, k, rfl⟩ : ∃ (r : List α) (k : α), l = r ++ [k] := ⟨_, _, (List.dropLast_concat_getLast (fun z => by rw [z] at h; cases h)).symm⟩
    have hr : r.length = n := by rw [List.length_append] at h; exact Nat.succ.inj h
    have := dcF_len kf vf n r hr
    have h2 := length_putK (dcF kf vf r) (kf k) (vf k)
    rw [dcF_snoc]
    omega
theorem dcF_keys {κ β α : Type} [DecidableEq κ] [DecidableEq β] {f : β → κ} (inj : ∀ a b, f a = f b → a = b) (kf : α → β) (vf : α → V) : ∀ n : Nat, ∀ l : List α, l.length = n → (dcF (fun a => f (kf a)) vf l).map (·.1) = ((l.map kf).foldl addU []).map f
  | 0, l, h => by rw [List.eq_nil_of_length_eq_zero h]; rfl
  | n + 1, l, h => by
    obtain ⟨r, k, rfl⟩ : ∃ (r : List α) (k : α), l = r ++ [k] := ⟨_, _, (List.dropLast_concat_getLast (fun z => by rw [z] at h; cases h)).symm⟩
    have hr : r.length = n := by rw [List.length_append] at h; exact Nat.succ.inj h
    rw [dcF_snoc, List.map_append, List.foldl_append]
    exact keys_put inj (dcF_keys inj kf vf n r hr) (kf k) (vf k)
theorem addU_mem {α : Type} [DecidableEq α] : ∀ (l ks : List α) (k : α), k ∈ l.foldl addU ks ↔ k ∈ ks ∨ k ∈ l
  | [], ks, k => by simp
  | a :: l, ks, k => by
    rw [List.foldl_cons, addU_mem l, mem_add, List.mem_cons]
    constructor
    · rintro ((h | h) | h)
      · exact .inl h
      · exact .inr (.inl h)
      · exact .inr (.inr h)
    · rintro (h | h | h)
      · exact .inl (.inl h)
      · exact .inl (.inr h)
      · exact .inr h
theorem addU_nodup {α : Type} [DecidableEq α] : ∀ (l ks : List α), ks.Nodup → (l.foldl addU ks).Nodup
  | [], ks, h => h
  | a :: l, ks, h => addU_nodup l _ (nd_add h a)
theorem addU_len {α : Type} [DecidableEq α] : ∀ (l ks : List α), (l.foldl addU ks).length ≤ ks.length + l.length
  | [], ks => Nat.le_refl _
  | a :: l, ks => by
    have := addU_len l (addU ks a)
    have h2 := len_add (ks := ks) a
    rw [List.foldl_cons, List.length_cons]
    omega
theorem dcF_has {κ β α : Type} [DecidableEq κ] [DecidableEq β] {f : β → κ} (inj : ∀ a b, f a = f b → a = b) (kf : α → β) (vf : α → V) (l : List α) (x : β) : (valV (dcF (fun a => f (kf a)) vf l) (f x)).isSome = decide (x ∈ l.map kf) := by
  rw [val_keys inj (dcF_keys inj kf vf _ l rfl) x]
  refine decide_eq_decide.mpr ?_
  rw [addU_mem]
  simp
section
variable {J : It} {n : Nat} {G : Hp → Prop} {Y : Nat → Hp → V → Hp → Prop} {α : Type}
theorem dc_it (w : Walk J n G Y) {g : TG} {tt : TT} {tk tv : TE} {vs : List Nat} {σ : St} {H0 : Hp} {Qd : Hp → Prop} {Wr : Hp → V → V → (Hp → Prop) → Prop} (Pv : Nat → Hp → Prop) (h0 : Pv 0 H0) (hG : ∀ i H, i ≤ n → Pv i H → G H)
    (hs : ∀ i x H H', i < n → Pv i H → Y i H x H' → g x (wipe σ vs) H' fun σ2 H2 => wipe σ2 vs = wipe σ vs ∧ tt σ2 H2 fun b H3 =>
      if b = true then tk σ2 H3 fun y H4 => tv σ2 H4 fun z H5 => Wr H5 y z (Pv (i + 1)) else Pv (i + 1) H3) (hd : ∀ H, Pv n H → Qd H) :
    ∃ W : Nat → Nat → Hp → Prop, (∃ m, W 0 m H0) ∧ ∀ i m H, W i m H →
      (J.stop i H ∧ Qd H) ∨ (J.go i H ∧ ∃ Nx : Hp → Prop, (∀ H', Nx H' → ∃ m', m' < m ∧ W (i + 1) m' H') ∧ ∀ x H', J.yld i H x H' → g x (wipe σ vs) H' fun σ2 H2 => wipe σ2 vs = wipe σ vs ∧ tt σ2 H2 fun b H3 =>
        if b = true then tk σ2 H3 fun y H4 => tv σ2 H4 fun z H5 => Wr H5 y z Nx else Nx H3) := by
  refine ⟨fun i m H => m = n - i ∧ i ≤ n ∧ Pv i H, ⟨n, by simp, Nat.zero_le _, h0⟩, ?_⟩
  rintro i m H ⟨rfl, hi, p⟩
  have q := hG i H hi p
  by_cases hlt : i < n
  · refine .inr ⟨w.goes i H hlt q, Pv (i + 1), fun H' p' => ⟨n - (i + 1), by omega, rfl, hlt, p'⟩, fun x H' y => hs i x H H' hlt p (w.yields i H x H' hlt q y)⟩
  · have e : i = n := by omega
    subst e
    exact .inl ⟨w.stops H q, hd H p⟩
def WrK (D : Addr) : Hp → V → V → (Hp → Prop) → Prop := fun H5 y z Nx => ∃ kvs k, y = kV k ∧ H5 D = some (.dK kvs) ∧ kvs.length < sizeLine ∧ Nx (upd H5 D (.dK (putK kvs k z)))
/-- keys that are numbers or texts -/
theorem dc_gen (wk : Walk J n G Y) {xs : List α} {kp : α → Bool} {kf : α → Key} {vf : α → V} {g : TG} {tt : TT} {tk tv : TE} {vs : List Nat} {σ : St} {H0 : Hp} {D : Addr} {Qd : Hp → Prop}
    (hn : xs.length = n) (hz : xs.length < sizeLine) (hD : H0 D = none) (hG : ∀ H, Same H0 H → G H)
    (hs : ∀ i a x H H' (T : V → V → Hp → Prop) (F : Hp → Prop), xs[i]? = some a → Same H0 H → Y i H x H' →
      (∀ H5, kp a = true → Same H H5 → T (kV (kf a)) (vf a) H5) → (∀ H4, kp a = false → Same H H4 → F H4) →
      g x (wipe σ vs) H' fun σ2 H2 => wipe σ2 vs = wipe σ vs ∧ tt σ2 H2 fun b H3 => if b = true then tk σ2 H3 fun y H4 => tv σ2 H4 fun z H5 => T y z H5 else F H3)
    (hd : ∀ H', Same H0 H' → H' D = some (.dK (dcF kf vf (xs.filter kp))) → Qd H') :
    ∃ W : Nat → Nat → Hp → Prop, (∃ m, W 0 m (upd H0 D (.dK []))) ∧ ∀ i m H, W i m H →
      (J.stop i H ∧ Qd H) ∨ (J.go i H ∧ ∃ Nx : Hp → Prop, (∀ H', Nx H' → ∃ m', m' < m ∧ W (i + 1) m' H') ∧ ∀ x H', J.yld i H x H' → g x (wipe σ vs) H' fun σ2 H2 => wipe σ2 vs = wipe σ vs ∧ tt σ2 H2 fun b H3 =>
        if b = true then tk σ2 H3 fun y H4 => tv σ2 H4 fun z H5 => ∃ kvs k, y = kV k ∧ H5 D = some (.dK kvs) ∧ kvs.length < sizeLine ∧ Nx (upd H5 D (.dK (putK kvs k z))) else Nx H3) := by
  refine dc_it wk (Wr := WrK D) (fun i H => Same H0 H ∧ H D = some (.dK (dcF kf vf ((xs.take i).filter kp)))) ⟨Same.new hD, upd_same⟩ (fun i H _ p => hG H p.1) ?_ ?_
  · rintro i x H H' hi ⟨b, hy⟩ y
    obtain ⟨a, ha⟩ : ∃ a, xs[i]? = some a := ⟨_, List.getElem?_eq_getElem (by omega)⟩
    have lnt : ((xs.take i).filter kp).length ≤ xs.length := Nat.le_trans (List.length_filter_le _ _) (by rw [List.length_take]; omega)
    have ll := dcF_len kf vf _ _ (rfl : ((xs.take i).filter kp).length = _)
    refine hs i a x H H' _ _ ha b y (fun H4 ka b4 => ⟨_, _, rfl, b4 _ _ hy, by omega, ?_, ?_⟩) (fun H4 ka b4 => ⟨Same.trans b b4, ?_⟩)
    · exact fun c o hc => by
        rw [upd_ne (fun z => by rw [z, hD] at hc; cases hc)]
        exact b4 _ _ (b _ _ hc)
    · rw [upd_same, List.take_add_one, ha]
      simp only [Option.toList_some, List.filter_append]
      have e : [a].filter kp = [a] := by rw [List.filter_cons, if_pos ka]; rfl
      rw [e, dcF_snoc]
    · rw [List.take_add_one, ha]
      simp only [Option.toList_some, List.filter_append]
      have e : [a].filter kp = [] := by rw [List.filter_cons, if_neg (by rw [ka]; exact fun z => nomatch z)]; rfl
      rw [e, List.append_nil]
      exact b4 _ _ hy
  · rintro H ⟨b, hy⟩
    rw [← hn, List.take_length] at hy
    exact hd H b hy
def WrG (D : Addr) : Hp → V → V → (Hp → Prop) → Prop := fun H5 y z Nx => ∃ H6, DPut H5 D y z H6 ∧ Nx H6
/-- keys that are tuples of numbers -/
theorem dcT_gen (wk : Walk J n G Y) {xs : List α} {kp : α → Bool} {kf : α → List Int} {vf : α → V} {g : TG} {tt : TT} {tk tv : TE} {vs : List Nat} {σ : St} {H0 : Hp} {D : Addr} {Qd : Hp → Prop}
    (hn : xs.length = n) (hz : xs.length < sizeLine) (hD : H0 D = none) (hG : ∀ H, Same H0 H → G H)
    (hs : ∀ i a x H H' (T : V → V → Hp → Prop) (F : Hp → Prop), xs[i]? = some a → Same H0 H → Y i H x H' →
      (∀ b H5, kp a = true → Same H H5 → H5 b = some (.tup ((kf a).map V.int)) → T (.ref b) (vf a) H5) → (∀ H4, kp a = false → Same H H4 → F H4) →
      g x (wipe σ vs) H' fun σ2 H2 => wipe σ2 vs = wipe σ vs ∧ tt σ2 H2 fun b H3 => if b = true then tk σ2 H3 fun y H4 => tv σ2 H4 fun z H5 => T y z H5 else F H3)
    (hd : ∀ H', Same H0 H' → H' D = some (.dT (dcF (fun a => tkey (kf a)) vf (xs.filter kp))) → Qd H') :
    ∃ W : Nat → Nat → Hp → Prop, (∃ m, W 0 m (upd H0 D (.dT []))) ∧ ∀ i m H, W i m H →
      (J.stop i H ∧ Qd H) ∨ (J.go i H ∧ ∃ Nx : Hp → Prop, (∀ H', Nx H' → ∃ m', m' < m ∧ W (i + 1) m' H') ∧ ∀ x H', J.yld i H x H' → g x (wipe σ vs) H' fun σ2 H2 => wipe σ2 vs = wipe σ vs ∧ tt σ2 H2 fun b H3 =>
        if b = true then tk σ2 H3 fun y H4 => tv σ2 H4 fun z H5 => ∃ H6, DPut H5 D y z H6 ∧ Nx H6 else Nx H3) := by
  refine dc_it wk (Wr := WrG D) (fun i H => Same H0 H ∧ H D = some (.dT (dcF (fun a => tkey (kf a)) vf ((xs.take i).filter kp)))) ⟨Same.new hD, upd_same⟩ (fun i H _ p => hG H p.1) ?_ ?_
  · rintro i x H H' hi ⟨b, hy⟩ y
    obtain ⟨a, ha⟩ : ∃ a, xs[i]? = some a := ⟨_, List.getElem?_eq_getElem (by omega)⟩
    have lnt : ((xs.take i).filter kp).length ≤ xs.length := Nat.le_trans (List.length_filter_le _ _) (by rw [List.length_take]; omega)
    have ll := dcF_len (fun a => tkey (kf a)) vf _ _ (rfl : ((xs.take i).filter kp).length = _)
    refine hs i a x H H' _ _ ha b y (fun q H4 ka b4 hq => ⟨_, DPut.t (k := tkey (kf a)) (b4 _ _ hy) (by rw [tkey_kV]; exact hq) (by omega), ?_, ?_⟩) (fun H4 ka b4 => ⟨Same.trans b b4, ?_⟩)
    · exact fun c o hc => by
        rw [upd_ne (fun z => by rw [z, hD] at hc; cases hc)]
        exact b4 _ _ (b _ _ hc)
    · rw [upd_same, List.take_add_one, ha]
      simp only [Option.toList_some, List.filter_append]
      have e : [a].filter kp = [a] := by rw [List.filter_cons, if_pos ka]; rfl
      rw [e, dcF_snoc]
    · rw [List.take_add_one, ha]
      simp only [Option.toList_some, List.filter_append]
      have e : [a].filter kp = [] := by rw [List.filter_cons, if_neg (by rw [ka]; exact fun z => nomatch z)]; rfl
      rw [e, List.append_nil]
      exact b4 _ _ hy
  · rintro H ⟨b, hy⟩
    rw [← hn, List.take_length] at hy
    exact hd H b hy
end
end Toy

-- part: KC4
namespace Toy
open PySem L2
/-! ### the letters of a chain: the first ones, then the other truths -/
def restL (n : Nat) (fs : List Int) : List Int := (up n).filter fun k => decide (k ∉ fs.map absI)
theorem absI_self {x : Int} (h : 1 ≤ x) : absI x = x := by unfold absI; rw [if_neg (by omega)]
theorem restL_abs (n : Nat) (fs : List Int) : (restL n fs).map absI = restL n fs := by
  have : ∀ l : List Int, (∀ x ∈ l, 1 ≤ x) → l.map absI = l := fun l h => (List.map_congr_left fun x hx => absI_self (h x hx)).trans (List.map_id' l)
  exact this _ fun x hx => (up_mem.mp (List.mem_filter.mp hx).1).1
theorem restL_perm {n : Nat} {fs : List Int} (h : ∀ p ∈ fs, Lt n p) (nd : (fs.map absI).Nodup) : ((fs ++ restL n fs).map absI).Perm (up n) := by
  rw [List.map_append, restL_abs]
  refine (List.perm_ext_iff_of_nodup ?_ (up_nodup n)).mpr fun x => ?_
  · rw [List.nodup_append]
    exact ⟨nd, (up_nodup n).filter _, fun a ha b hb e => of_decide_eq_true (List.mem_filter.mp hb).2 (by rw [← e]; exact ha)⟩
  · rw [List.mem_append]
    constructor
    · rintro (hx | hx)
      · obtain ⟨p, hp, rfl⟩ := List.mem_map.mp hx
        exact up_mem.mpr (h p hp)
      · exact (List.mem_filter.mp hx).1
    · intro hx
      by_cases c : x ∈ fs.map absI
      · exact .inl c
      · exact .inr (List.mem_filter.mpr ⟨hx, decide_eq_true c⟩)
theorem restL_len {n : Nat} {fs : List Int} (h : ∀ p ∈ fs, Lt n p) (nd : (fs.map absI).Nodup) : (fs ++ restL n fs).length = n := by
  have := (restL_perm h nd).length_eq
  rw [List.length_map, up_len] at this
  exact this
theorem restL_all {n : Nat} {fs : List Int} (h : ∀ p ∈ fs, Lt n p) (nd : (fs.map absI).Nodup) : AllT n (fs ++ restL n fs) := fun k k1 k2 => (restL_perm h nd).mem_iff.mpr (up_mem.mpr ⟨k1, k2⟩)
theorem restL_lt {n : Nat} {fs : List Int} (h : ∀ p ∈ fs, Lt n p) : ∀ p ∈ fs ++ restL n fs, Lt n p := fun p hp => by
  rcases List.mem_append.mp hp with hp | hp
  · exact h p hp
  · have := up_mem.mp (List.mem_filter.mp hp).1
    exact ⟨by rw [absI_self this.1]; exact this.1, by rw [absI_self this.1]; exact this.2⟩
section
variable {P : Program} {w : World} {K : PySem.W.Frag} {mg : Str → Option Value} {base : Heap}
/-- what the top has written of Chain -/
structure ChProg (P : Program) (w : World) (K : PySem.W.Frag) (mg : Str → Option Value) (base : Heap) (C fI fPu fHd : Addr) (fdI fdPu fdHd : FuncData) : Prop where
  cl : Cls K C
  na1 : NoAttr K C "letters"
  na2 : NoAttr K C "goals"
  na3 : NoAttr K C "ways_back"
  na4 : NoAttr K C "_made_by"
  gC : mg "Chain" = some (.ref C)
  mak : Mk K C fI
  bI : Binds K fdI ["self", "letters"] []
  GI : FnOk P w K mg base CX0 2 fI fdI ["self", "letters"] (spCI C)
  mPu : Meth K C "put" fPu
  bPu : Binds K fdPu ["self", "turn", "at"] []
  GPu : FnOk P w K mg base CX0 16 fPu fdPu ["self", "turn", "at"] (spPu K C 13)
  mHd : Meth K C "holds" fHd
  bHd : Binds K fdHd ["self", "turn", "at"] []
  GHd : FnOk P w K mg base CX0 2 fHd fdHd ["self", "turn", "at"] (spHd K C)
/-! ### _chain_of -/
abbrev sCo : Stmt := s__chain_of
abbrev nCo : List Str := ["many", "firsts", "makers", "known", "chain", "maker", "letter", "truth"]
theorem scCo : FnScope nCo ["many", "firsts", "makers"] (defScope sCo) := ⟨rfl, rfl, rfl, by decide +kernel, rfl, by decide +kernel, by decide +kernel⟩
def tAbs6 : TE := tCB (fun xs H Q => ∃ i, xs = [.int i] ∧ Q (.int (if i < 0 then -i else i)) H) (tCons (tVar 6) tNil)
def tNk7 : TT := tB (tDNotIn (tVar 7) (tVar 3))
def spCo (C : Addr) : Sp := fun vs H Q _ => ∃ (fa mk : Addr) (n : Nat) (fs : List Int) (bs : List Addr) (Ls : List (List Int)), vs = [.int (n : Int), .ref fa, .ref mk] ∧ H fa = some (.lst (fs.map V.int)) ∧ (∀ p ∈ fs, Lt n p) ∧ (fs.map absI).Nodup ∧ H mk = some (.lst (bs.map V.ref)) ∧ TupsAt H bs Ls ∧ (∀ L ∈ Ls, Trn n L) ∧ 1 ≤ n ∧ n ≤ 12 ∧
  ∀ (c la ga wa ma : Addr) (gs ws ms : List Addr) (lv : List Lv) (H' : Hp), ChAt C H' n c la ga wa ma gs ws ms lv → ChOk n (fs ++ restL n fs) lv Ls → (∀ v ∈ lv, Strong n v.ms) → Same H H' → (∀ x ∈ c :: la :: ga :: wa :: ma :: (gs ++ ws ++ ms), H x = none) → Q (.ref c) H'
theorem ok_co {f C fI fPu fHd : Addr} {fd fdI fdPu fdHd : FuncData} (F : Fun K "_chain_of" "_chain_of" sCo f fd) (B : Bl mg) (G : ChProg P w K mg base C fI fPu fHd fdI fdPu fdHd) : FnOk P w K mg base CX0 17 f fd ["many", "firsts", "makers"] (spCo C) := by
  refine F.ok scCo (fun vs H Q E h => ?_) (fun cdv A outer s H vs Q E hr h => ?_)
  · obtain ⟨fa, mk, n, fs, bs, Ls, rfl, _⟩ := h
    rfl
  · obtain ⟨fa, mk, n, fs, bs, Ls, rfl, hfa, ltf, ndf, hmk, tL, trL, n1, n12, q⟩ := h
    have hu := hu_of hr
    refine ⟨_, pss_cons (ps_set (i := 3) scCo.nd rfl (Or.inr rfl) (pe_dc (own := [("letter", 6)]) (g := gName 6) (tt := tYes) (tk := tAbs6) (tv := tC (V.bl true)) rfl scCo.nd (pi_list (pv 1)) (blkOk_by (own := [("letter", 6)]) (N := nCo) (sc := defScope sCo) (by decide +kernel)) (fun _ _ _ _ _ => pg_name (i := 6) scCo.nd rfl (Or.inl rfl)) (fun _ _ _ _ _ => pts_nil) (fun _ _ _ _ _ => pe_callB call_abs (by rfl) B.abs (by decide +kernel) (pa_cons (pv 6) pa_nil)) (fun _ _ _ _ _ => pe_bl)))
      (pss_cons (ps_set (i := 4) scCo.nd rfl (Or.inl rfl) (pe_make G.mak G.GI (hr.mono (by decide)) rfl G.gC G.bI .nil pass0 (pa_cons (pe_op op_cat (pv 1) (pe_lc (own := [("truth", 7)]) (g := gName 7) (tt := tNk7) (te := tVar 7) rfl scCo.nd (pi_range2 rfl B.range (pa_cons pe_int (pa_cons (pe_op op_add (pv 0) pe_int) pa_nil))) (blkOk_by (own := [("truth", 7)]) (N := nCo) (sc := defScope sCo) (by decide +kernel)) (fun _ _ _ _ _ => pg_name (i := 7) scCo.nd rfl (Or.inl rfl)) (fun _ _ _ _ _ => pts_one (pt_cmp (pc_dnotin hu (pv 7) (pv 3)))) (fun _ _ _ _ _ => pv 7))) pa_nil)))
      (pss_cons (ps_for PassesOwn.never rfl (pi_list (pv 2)) (pg_name (i := 5) scCo.nd rfl (Or.inl rfl)) (pss_one (ps_expr (pe_meth (pv 4) G.cl G.mPu G.GPu hr G.bPu .nil pass0 (pa_cons (pv 5) (pa_cons pe_int pa_nil))))))
      (pss_one (ps_ret (pv 4))))), ?_⟩
    show tSeq _ _ _ [some (.int (n : Int)), some (.ref fa), some (.ref mk), none, none, none, none, none] H
    have eZ : sizeLine = 16777216 := rfl
    have lsl := restL_len ltf ndf
    have fl : fs.length ≤ n := by rw [List.length_append] at lsl; omega
    have lfz : (fs.map V.int).length = fs.length := List.length_map _
    refine seq_gen (fun σ' H' => ∃ k : Addr, σ' = [some (.int (n : Int)), some (.ref fa), some (.ref mk), some (.ref k), none, none, none, none] ∧ Same H H' ∧ H' k = some (.dK (dcF (fun p => Sum.inl (absI p)) (fun _ => .bl true) fs))) (fun nx hnx => ?_) ?_
    · refine ⟨_, rfl, fa, rfl, ⟨_, SqL.of hfa⟩, fun D hD => dc_gen (walk_list (K := K) (a := fa) (xs := fs.map V.int)) (xs := fs) (kp := fun _ => true) (kf := fun p => Sum.inl (absI p)) (vf := fun _ => .bl true) lfz.symm (by omega) hD (fun H2 b => SqL.of (b _ _ hfa)) ?_ fun H2 b hk => ?_⟩
      · rintro i a x Hz H2 T F' ha b ⟨rfl, hx⟩ hT _
        rw [List.getElem?_map, ha] at hx
        cases hx
        refine ⟨rfl, yesT ?_⟩
        show tAbs6 [some (.int (n : Int)), some (.ref fa), some (.ref mk), none, none, none, some (.int a), none] _ _
        exact ⟨_, rfl, a, rfl, hT _ rfl (Same.refl _)⟩
      · rw [List.filter_eq_self.mpr fun _ _ => rfl] at hk
        exact hnx _ _ ⟨D, rfl, b, hk⟩
    rintro σ1 H1 ⟨k, rfl, s1, hk⟩
    refine seq_gen (fun σ' H' => ∃ (c la ga wa ma : Addr) (gs ws ms : List Addr), σ' = [some (.int (n : Int)), some (.ref fa), some (.ref mk), some (.ref k), some (.ref c), none, none, none] ∧ Same H H' ∧ H c = none ∧ ChAt C H' n c la ga wa ma gs ws ms (initV n (fs ++ restL n fs)) ∧ (gs ++ ws).Nodup ∧ (la :: ga :: wa :: ma :: ms).Nodup ∧ ∀ x ∈ la :: ga :: wa :: ma :: (gs ++ ws ++ ms), H x = none) (fun nx hnx => ?_) ?_
    · refine ⟨_, rfl, _, rfl, _, _, rfl, rfl, 1, (n : Int) + 1, rfl, ⟨by decide, by decide, by omega, by omega⟩, fun D hD => ?_⟩
      rw [show ((n : Int) + 1 - 1).toNat = n by omega]
      refine lc_gen walk_range (R := fun (a : Int) y _ => y = .int a) (I := fun _ => True) (zs := []) (xs := up n) (kp := fun k => decide (k ∉ fs.map absI)) (up_len n) (by rw [up_len]; omega) hD (fun z => nomatch z) trivial (fun _ _ _ _ => trivial) (fun _ _ _ => trivial) ?_ fun H2 ys b _ hy pr => ?_
      · rintro i a x Hz H2 T F' ha b _ _ ⟨rfl, rfl⟩ hT hF
        have ea : a = 1 + (i : Int) := by
          unfold up at ha
          rw [List.getElem?_map] at ha
          obtain ⟨j, hj, rfl⟩ := Option.map_eq_some_iff.mp ha
          rw [List.getElem?_eq_some_iff] at hj
          obtain ⟨h1, h2⟩ := hj
          rw [List.getElem_range] at h2
          rw [h2]
        subst ea
        refine ⟨rfl, ?_⟩
        show tNk7 [some (.int (n : Int)), some (.ref fa), some (.ref mk), some (.ref k), none, none, none, some (.int (1 + (i : Int)))] _ _
        refine ⟨_, rfl, _, rfl, k, _, rfl, DGet.k (k := .inl (1 + (i : Int))) (b _ _ hk fun z => nomatch z), _, rfl, ?_⟩
        rw [dcF_has inl_inj (kf := absI)]
        by_cases c : (1 + (i : Int)) ∈ fs.map absI
        · rw [decide_eq_true c]
          refine iteF (hF _ ?_ .refl trivial)
          exact decide_eq_false fun z => z c
        · rw [decide_eq_false c]
          refine iteT ⟨_, rfl, hT _ _ ?_ .refl trivial fun _ _ => rfl⟩
          exact decide_eq_true c
      · have ey : ys = (restL n fs).map V.int := by
          have : ∀ {ys : List V} {l : List Int}, Paired (fun y (a : Int) => y = V.int a) ys l → ys = l.map V.int := by
            intro ys l h
            induction h with
            | nil => rfl
            | cons h _ ih => rw [h, ih]; rfl
          exact this pr
        subst ey
        have s2 : Same H H2 := Same.trans s1 b.same
        have b0 : Same H2 H2 := Same.refl H2
        have hlaK := True.intro
        refine ⟨fa, D, _, _, rfl, rfl, s2 _ _ hfa, hy, by rw [lfz, List.length_map]; have := List.length_append (as := fs) (bs := restL n fs); omega, fun la hla => ?_⟩
        rw [← List.map_append]
        have hla1 : upd H2 la (.lst ((fs ++ restL n fs).map V.int)) la = some (.lst ((fs ++ restL n fs).map V.int)) := upd_same
        have s3 : Same H2 (upd H2 la (.lst ((fs ++ restL n fs).map V.int))) := Same.new hla
        generalize upd H2 la (.lst ((fs ++ restL n fs).map V.int)) = H3 at *
        intro c dx hc hdx ndc
        have s4 : Same H3 (upd H3 dx (.own c)) := Same.new hdx
        have hc4 : upd H3 dx (.own c) c = none := by rw [upd_ne (Ne.symm ndc)]; exact hc
        have s5 := Same.new (o := .ins C dx []) hc4
        refine ⟨c, la, dx, fs ++ restL n fs, n, rfl, upd_same, s5 _ _ (s4 _ _ hla1), lsl, n1, by omega, fun ga wa ma gs ws ms H6 ch nd nm nw b6 => ⟨rfl, hnx _ _ ⟨c, la, ga, wa, ma, gs, ws, ms, rfl, ?_, ?_, ch, nd, nm, ?_⟩⟩⟩
        · have s15 := Same.trans s2 (Same.trans s3 (Same.trans s4 s5))
          exact fun x o hx => b6 _ _ (s15 _ _ hx) fun z => by
            rw [List.mem_singleton.mp z] at hx
            rw [(Same.trans s2 s3) _ _ hx] at hc
            cases hc
        · cases e : H c with
          | none => rfl
          | some o => rw [(Same.trans s2 s3) _ _ e] at hc; cases hc
        · intro x hx
          cases e : H x with
          | none => rfl
          | some o =>
            have := (Same.trans s2 (Same.trans s3 (Same.trans s4 s5))) _ _ e
            rcases List.mem_cons.mp hx with z | hx
            · rw [z] at e
              rw [(Same.trans s2 b0) _ _ e] at hla
              cases hla
            · rw [nw x hx] at this
              cases this
    rintro σ2 H2 ⟨c, la, ga, wa, ma, gs, ws, ms, rfl, s2, nc, ch, nd, nm, nw⟩
    have al := restL_all ltf ndf
    have lt := restL_lt ltf
    refine seq_gen (fun σ' H' => ∃ (lv : List Lv) (l5 : Option V), σ' = [some (.int (n : Int)), some (.ref fa), some (.ref mk), some (.ref k), some (.ref c), l5, none, none] ∧ Same H H' ∧ ChAt C H' n c la ga wa ma gs ws ms lv ∧ ChOk n (fs ++ restL n fs) lv Ls ∧ ∀ v ∈ lv, Strong n v.ms) (fun nx hnx => ?_) ?_
    · refine ⟨_, rfl, mk, rfl, ⟨_, SqL.of (s2 _ _ hmk)⟩, for_list (xs := bs.map V.ref) (fun i σ' H' => ∃ (lv : List Lv) (l5 : Option V), σ' = [some (.int (n : Int)), some (.ref fa), some (.ref mk), some (.ref k), some (.ref c), l5, none, none] ∧ Same H H' ∧ ChAt C H' n c la ga wa ma gs ws ms lv ∧ ChOk n (fs ++ restL n fs) lv (Ls.take i) ∧ ∀ v ∈ lv, Strong n v.ms) ⟨_, none, rfl, s2, ch, ChOk.init lt, fun v hv => ?_⟩ (fun i σ' H' _ ⟨lv, l5, _, s', _⟩ => SqL.of (s' _ _ hmk)) ?_ ?_⟩
      · obtain ⟨p, _, rfl⟩ := List.mem_map.mp hv
        exact Strong.nil
      · rintro i x σ' H' hx ⟨lv, l5, rfl, s', ch', ok', st'⟩
        obtain ⟨b, hb, rfl⟩ : ∃ b, bs[i]? = some b ∧ x = .ref b := by
          rw [List.getElem?_map] at hx
          obtain ⟨b, hb, e⟩ := Option.map_eq_some_iff.mp hx
          exact ⟨b, hb, e.symm⟩
        obtain ⟨L, hL, hbL⟩ := tL.get hb
        obtain ⟨dx, ob⟩ := ch'.ob
        have tr := trL L (List.mem_of_getElem? hL)
        have len : lv.length = n := by rw [← lsl, ← ok'.pts, List.length_map]
        have en := ok'.enough al
        refine ⟨_, rfl, c, dx, _, rfl, ob, rfl, _, rfl, c, la, ga, wa, ma, gs, ws, ms, lv, n, b, L, 0, [], rfl, ⟨ch', ok'.full, ok'.kd, st', s' _ _ hbL, tr, by omega, Nat.zero_le _, by omega, en, fun p hp => (nomatch hp), fun t _ p hp => (nomatch hp), fun p hp => (nomatch hp), nd, nm⟩, by omega, fun sf H6 ch6 pp st6 b6 => ?_⟩
        refine ⟨sf, _, rfl, ?_, ch6, ?_, st6⟩
        · intro y o hy
          refine b6 y o (s' _ _ hy) fun z => ?_
          rw [List.drop_zero, List.drop_zero, List.drop_zero] at z
          rw [nw y (List.mem_cons_of_mem _ (List.mem_cons_of_mem _ (List.mem_cons_of_mem _ (List.mem_cons_of_mem _ z))))] at hy
          cases hy
        · rw [List.take_add_one, hL]
          exact ok'.put al (fun m hm => trL m (List.mem_of_mem_take hm)) tr pp
      · rintro σ' H' ⟨lv, l5, rfl, s', ch', ok', st'⟩
        rw [List.length_map, tL.len, List.take_length] at ok'
        exact hnx _ _ ⟨lv, l5, rfl, s', ch', ok', st'⟩
    rintro σ3 H3 ⟨lv, l5, rfl, s3, ch3, ok3, st3⟩
    exact ⟨_, rfl, q c la ga wa ma gs ws ms lv H3 ch3 ok3 st3 s3 fun x hx => (List.mem_cons.mp hx).elim (fun e => by rw [e]; exact nc) fun h => nw x h⟩
end
end Toy

-- part: RG
namespace L2
open PySem PySem.Spec PyProof.Rows
section
variable {X : Cx}
/-- repr of nested lists and tuples -/
def rRepr (K : PySem.W.Frag) : List V → Hp → VK → Prop := fun xs H Q => ∃ a d, xs = [.ref a] ∧ Dp K H (.ref a) d ∧ d.showable = true ∧ d.hasDict = false ∧ d.depth ≤ 60 ∧ d.shown.length ≤ sizeLine ∧ Q (.str d.shown) H
theorem call_reprD (hg : X.A.guards = some []) (hu : X.A.units + 100 < cLine) : CallR X (.builtin "repr") (rRepr X.K) := by
  intro pins s σ H xs us Q I r h
  obtain ⟨a, d, rfl, hd, hs, hn, hp, hz, q⟩ := h
  obtain ⟨u, rfl, ru⟩ := vals1 r
  obtain ⟨as, hr⟩ := Dp.reads I d _ _ hd ru
  cases ru
  exact PySem.repr_of_reads' hr hs (PyData.noDict_hsm hn) hg (by omega) (fun _ _ e => e) (fun h' u tk hk => ⟨.str _, H, I.un (Un.kept hk) (I.hok.kept hk), ⟨_, rfl⟩, q⟩) hz
end
/-- a def that is called where no object's text is under way -/
structure FnG (P : Program) (w : World) (K : PySem.W.Frag) (mg : Str → Option Value) (base : Heap) (k : Nat) (f : Addr) (fd : FuncData) (ps : List Str) (sp : Sp) : Prop where
  len : ∀ vs H Q E, sp vs H Q E → vs.length = ps.length
  run : ∀ (A : Around) (outer : List Env) (s : Shared) (H : Hp) (args : Args) (us : List Value) (vs : List V) (Q : VK) (E : XK), A.guards = some [] → Room k A → Env0 P w K mg base A outer s H → BindsTo s fd args (ps.zip us) → Vals vs us → sp vs H Q E →
    codeAny (model P w) A (.call (.ref f) args) (CR CX0 outer P w H s Q E) s
theorem deeper_guards {A : Around} {env : Env} (h : A.guards = some []) : (A.deeper env).guards = some [] := by
  show _ = _
  simp [Around.deeper, h]
section
variable {P : Program} {w : World} {K : PySem.W.Frag} {mg : Str → Option Value} {base : Heap}
theorem FnG.of {x qual : Str} {st : Stmt} {f : Addr} {fd : FuncData} {N ps : List Str} {k : Nat} {sp : Sp} (F : Fun K x qual st f fd) (S : FnScope N ps (defScope st)) (len : ∀ vs H Q E, sp vs H Q E → vs.length = ps.length)
    (hbody : ∀ (cdv : Value) (A : Around) (outer : List Env) (s : Shared) (H : Hp) (vs : List V) (Q : VK) (E : XK), A.guards = some [] → Room k (A.deeper (envOfC qual (defScope st) s.heap.objs.size f cdv)) → sp vs H Q E →
      ∃ t, PSs (cxOf CX0 P w K mg base N qual (defScope st) f cdv A outer s H E).nox (defBody st) t ∧ t { nx := fun _ H' => Q .non H', rt := Q } (start N vs) H) : FnG P w K mg base (k + 1) f fd ps sp := by
  obtain ⟨oc, od, kV, doc, pm, an, cdv, ct, osl, rfl, lk, hcd⟩ := F.ex
  refine ⟨len, fun A outer s H args us vs Q E hg hr e0 hb r hsp => ?_⟩
  obtain ⟨t, ht, hq⟩ := hbody cdv A outer s H vs Q E hg (hr.deeper _) hsp
  have kp := fun b o e => (e0.bs b o e).1
  have KX : K.In s.heap := e0.mod.kin.keeps kp
  have kinds : ∀ y ∈ ps.zip us, (defScope st).names.lookup y.1 = some .local ∨ ((defScope st).names.lookup y.1 = some .cell ∧ ((cellsFrom (s.heap.objs.size + 1) (defScope st).names []).lookup y.1).isSome = true) := fun y hy =>
    (S.par y.1 (List.of_mem_zip (show (y.1, y.2) ∈ _ from hy)).1).imp id fun q => ⟨q, PySem.W.cellsFrom_some _ _ _ (.inl q)⟩
  refine codeAny_call_function hr.depth (KX _ _ lk) rfl S.co S.gen rfl (PySem.W.codeRec_of KX hcd) (hb _ _ _ _ (wpAny_newFunctionEnv_cells S.kind kinds fun env he s1 x => ?_))
  subst he
  refine ⟨(e0.mod.nolimit.keeps kp).keeps x.toInCall.keep, codeAny_func ?_⟩
  have I : Inv (cxOf CX0 P w K mg base N qual (defScope st) f cdv A outer s H E) [] (start N vs) H s1 := inv_start S hr.hd e0 (len _ _ _ _ hsp) r x
  refine wpAny_mono (ht.nox.run [] s1 (start N vs) H _ I hq) (fun fl s' hs => ?_) fun e s' hs => hs
  cases fl with
  | ret u =>
    obtain ⟨v, _, H', J, rv, q⟩ := hs
    exact ⟨v, H', J.os, J.bare, J.base, J.hok, rv, q⟩
  | next =>
    obtain ⟨_, H', J, q⟩ := hs
    exact ⟨V.non, H', J.os, J.bare, J.base, J.hok, rfl, q⟩
  | brk => exact hs.elim fun _ h => h.elim fun _ h => False.elim h.2
  | cont => exact hs.elim fun _ h => h.elim fun _ h => False.elim h.2
variable {X : Cx} {k : Nat} {f : Addr} {fd : FuncData} {ps : List Str} {sp : Sp} {x : Str} {p pos : Pos} {e : Expr} {es : List Expr} {t : TA}
theorem pe_callG (F : FnG X.prog X.w X.K X.mg X.base k f fd ps sp) (hgu : X.A.guards = some []) (hr : Room k X.A) (hg : Gl X x) (hm : X.mg x = some (.ref f)) (hk : PySem.W.keepIn X.K (.ref f) = true) (hb : Binds X.K fd ps [])
    (ha : PA X (e :: es) t) (hdb : (x == ("__debug__" : Str)) = false := by decide) (he : starEach (e :: es) X.env = (false, eval e X.env) :: starEach es X.env := by rfl) (hpl : (backTo pos (starEach es X.env)).any (·.1) = false := by rfl) :
    PE X (.Call (.Name x p) (e :: es) [] pos) (tCall sp [] E0 t) := by
  refine ⟨fun pins s σ H Q I h => wpAny_Call_Name_kw (ld_glob I hg hm (PySem.W.callWith_K (h₀ := X.base) I.ok.mod.kin hk (thn (ha.run pos pins s σ H _ I h) fun us s1 ⟨vs, H1, I1, r, q⟩ => ⟨I1.kIn, ?_⟩) he hpl) hdb)⟩
  have q : sp (vs ++ []) H1 Q E0 := q
  rw [List.append_nil] at q
  have b1 := hb s1 us I1.kIn (by rw [List.append_nil, ← r.length]; exact F.len _ _ _ _ q)
  rw [List.append_nil] at b1
  refine wpAny_call (codeAny_mono (F.run X.A X.stack s1 H1 ⟨us, []⟩ us vs Q E0 hgu hr I1.env0 b1 r q) fun r s' hq => ?_)
  cases r with
  | error e => exact pass0 pins σ H1 s1 e s' I1 hq
  | ok fl =>
    cases fl with
    | ret u => exact I1.after hq
    | next => exact False.elim hq
    | brk => exact False.elim hq
    | cont => exact False.elim hq
end
end L2

-- part: TX
namespace Toy
open PySem PySem.Spec PyProof.Rows L2
/-! ### how long the texts are -/
theorem piled_le {m : Nat} : ∀ {ts : List Str}, (∀ t ∈ ts, t.length ≤ m) → piled ts ≤ ts.length * (m + 2)
  | [], _ => Nat.zero_le _
  | t :: r, h => by
    have h1 := h t List.mem_cons_self
    have h2 := piled_le fun t ht => h t (List.mem_cons_of_mem _ ht)
    rw [piled_cons, List.length_cons, Nat.add_mul, Nat.one_mul]
    omega
theorem list_len (ts : List Str) : (listText ts).length ≤ piled ts + 2 := by
  cases ts with
  | nil => decide
  | cons t r =>
    have h := textFrom_length_pos r 1 (("[" : Str) ++ (if (0 : Nat) > 0 then ", " else "" : String) ++ t) (Nat.succ_pos 0)
    have e : ((("[" : Str) ++ (if (0 : Nat) > 0 then ", " else "" : String) ++ t)).length = 1 + t.length := by
      rw [strLen_append, strLen_append]; rfl
    have hX : (listText (t :: r)).length = (textFrom 1 (("[" : Str) ++ (if (0 : Nat) > 0 then ", " else "" : String) ++ t) r).length + 1 := by
      show (textFrom 0 "[" (t :: r) ++ "]").length = _
      rw [strLen_append]; rfl
    rw [hX, h, e, piled_cons]
    omega
theorem int_len4 : ∀ n : Nat, n < 401 → ((toString (n : Int) : String) : Str).length ≤ 4 ∧ ((toString (-(n : Int)) : String) : Str).length ≤ 4 := by decide +kernel
theorem int_shown {x : Int} (h : x.natAbs ≤ 400) : (PyData.shown (.int x)).length ≤ 4 := by
  simp only [PyData.shown]
  have q := int_len4 x.natAbs (by omega)
  rcases Int.natAbs_eq x with e | e
  · rw [e]
    exact q.1
  · rw [e]
    exact q.2
theorem all_shown {α : Type} (f : α → PyData) (m : Nat) : ∀ l : List α, (∀ x ∈ l, (f x).shown.length ≤ m) → (PyData.shownAll (l.map f)).length = l.length ∧ ∀ t ∈ PyData.shownAll (l.map f), t.length ≤ m
  | [], _ => by simp [PyData.shownAll]
  | x :: r, h => by
    obtain ⟨h1, h2⟩ := all_shown f m r fun y hy => h y (List.mem_cons_of_mem _ hy)
    simp only [List.map_cons, PyData.shownAll, List.length_cons, h1, true_and]
    intro t ht
    rcases List.mem_cons.mp ht with rfl | ht
    · exact h x List.mem_cons_self
    · exact h2 t ht
theorem showable_ints : ∀ l : List Int, (∀ x ∈ l, x.natAbs ≤ 400) → PyData.showableAll (l.map PyData.int) = true
  | [], _ => by simp [PyData.showableAll]
  | x :: r, h => by
    have h1 := h x List.mem_cons_self
    have h2 : x.natAbs.log2 < 1920 := Nat.lt_of_le_of_lt (Nat.log2_le_self _) (by omega)
    simp only [List.map_cons, PyData.showableAll, PyData.showable, showable_ints r fun y hy => h y (List.mem_cons_of_mem _ hy), Bool.and_true, decide_eq_true_eq]
    exact h2
theorem noDict_ints : ∀ l : List Int, PyData.hasDictAll (l.map PyData.int) = false
  | [] => by simp [PyData.hasDictAll]
  | x :: r => by simp [PyData.hasDictAll, PyData.hasDict, noDict_ints r]
/-- a list or a tuple of letters -/
def dI (z : Bool × List Int) : PyData := if z.1 = true then .list (z.2.map PyData.int) else .tuple (z.2.map PyData.int)
def Fits (n : Nat) (l : List Int) : Prop := l.length ≤ n ∧ ∀ x ∈ l, x.natAbs ≤ 400
theorem dI_shown {z : Bool × List Int} {n : Nat} (h : Fits n z.2) : (dI z).shown.length ≤ n * 6 + 2 ∧ (dI z).showable = true ∧ (dI z).hasDict = false ∧ (dI z).depth ≤ 2 := by
  obtain ⟨b, l⟩ := z
  obtain ⟨h1, h2⟩ := h
  obtain ⟨a1, a2⟩ := all_shown PyData.int 4 l fun x hx => int_shown (h2 x hx)
  have a3 := piled_le a2
  rw [a1] at a3
  have h1 : l.length ≤ n := h1
  have a4 : l.length * (4 + 2) ≤ n * 6 := Nat.mul_le_mul_right _ h1
  have d := dep_intsD l
  have s := showable_ints l h2
  have nd := noDict_ints l
  cases b with
  | true =>
    have a5 := list_len (PyData.shownAll (l.map PyData.int))
    refine ⟨?_, ?_, ?_, ?_⟩
    · show (PyData.shown (.list _)).length ≤ _
      simp only [PyData.shown]
      omega
    · show PyData.showable (.list _) = true
      simp only [PyData.showable]
      exact s
    · show PyData.hasDict (.list _) = false
      simp only [PyData.hasDict]
      exact nd
    · show PyData.depth (.list _) ≤ 2
      simp only [PyData.depth]
      omega
  | false =>
    have a5 := fmt_text (PyData.shownAll (l.map PyData.int))
    refine ⟨?_, ?_, ?_, ?_⟩
    · show (PyData.shown (.tuple _)).length ≤ _
      simp only [PyData.shown]
      omega
    · show PyData.showable (.tuple _) = true
      simp only [PyData.showable]
      exact s
    · show PyData.hasDict (.tuple _) = false
      simp only [PyData.hasDict]
      exact nd
    · show PyData.depth (.tuple _) ≤ 2
      simp only [PyData.depth]
      omega
end Toy

-- part: IL
namespace Toy
open PySem L2
section
variable {P : Program} {w : World} {K : PySem.W.Frag} {mg : Str → Option Value} {base : Heap}
abbrev sIsLs : Stmt := s_is_list
theorem scIsLs : FnScope ["thing"] ["thing"] (defScope sIsLs) := ⟨rfl, rfl, rfl, by decide +kernel, rfl, by decide +kernel, by decide +kernel⟩
def spIsLs (K : PySem.W.Frag) : Sp := fun vs H Q _ => ∃ x T, vs = [x] ∧ TyB K H x T ∧ ∀ H', Same H H' → Q (.bl (["list", "tuple"].contains T)) H'
theorem ok_isLs {f : Addr} {fd : FuncData} (F : Fun K "is_list" "is_list" sIsLs f fd) (B : Bl mg) : FnOk P w K mg base CX0 1 f fd ["thing"] (spIsLs K) := by
  refine F.ok scIsLs (fun vs H Q E h => ?_) (fun cdv A outer s H vs Q E hr h => ?_)
  · obtain ⟨x, T, rfl, _⟩ := h
    rfl
  · obtain ⟨x, T, rfl, ty, q⟩ := h
    refine ⟨_, pss_one (ps_ret (pe_cmpR op_inTy (pe_callTy call_type1 (by rfl) B.type (by decide +kernel) (pa_cons (pv 0) pa_nil)) (pe_tup (pa_cons (pe_bltn (v := .ty "list") (by rfl) B.list (by decide +kernel) rfl) (pa_cons (pe_bltn (v := .ty "tuple") (by rfl) B.tuple (by decide +kernel) rfl) pa_nil))) (by rfl))), ?_⟩
    show tRet _ _ [some x] H
    walk_at "rd"
    refine ⟨x, T, rfl, ty, by show 2 ≤ sizeLine; decide, fun p hp => ?_⟩
    exact ⟨T, p, ["list", "tuple"], rfl, rfl, SqT.of upd_same, Kn.ty ty, by simp [Kn], q _ (Same.new hp)⟩
end
end Toy

-- part: KC5
namespace Toy
open PySem L2
theorem walkSq {K : PySem.W.Frag} {p : Addr} {xs : List V} {H : Hp} (hS : SqA K H p xs) {i : Nat} {σ : St} (e : σ[i]? = some (some (.ref p))) {R : It → Hp → Prop} (q : ∀ J, Walk J xs.length (fun H' => Same H H') (YAt xs) → R J H) : iOr (iList K (tVar i)) (iTup K (tVar i)) σ H R := by
  rcases hS with h | h
  · exact .inl ⟨_, e, p, rfl, ⟨_, h⟩, q _ (walk_list.mono (fun H' s => Same.seq s h) fun _ _ _ _ _ _ y => y)⟩
  · exact .inr ⟨_, e, p, rfl, ⟨_, h⟩, q _ (L2.walk_tup.mono (fun H' s => Same.sqt s h) fun _ _ _ _ _ _ y => y)⟩
theorem pair_bls {α : Type} {f : α → Bool} : ∀ {ys : List V} {l : List α}, Paired (fun y a => y = V.bl (f a)) ys l → ys = (l.map f).map V.bl
  | _, _, .nil => rfl
  | _, _, .cons h t => by rw [h, pair_bls t]; rfl
theorem dp_tupT {K : PySem.W.Frag} {H : Hp} {a : Addr} {L : List Int} (h : SqT K H a (L.map V.int)) : Dp K H (.ref a) (dTup L) := .tup h (dp_ints L)
theorem shapedT (l : List Int) : SeqAt.shaped (dTup l) = true := by
  have h := dep_intsD l
  unfold SeqAt.shaped dTup
  rw [Bool.and_eq_true]
  refine ⟨by simp [PyData.canLay0, can_ints], decide_eq_true ?_⟩
  simp only [PyData.depth]
  omega
theorem eqvT (a b : List Int) : PyData.eqv (dTup a) (dTup b) = decide (a = b) := by
  unfold dTup
  simp only [PyData.eqv]
  exact eqvAll_ints a b
/-- the makers that are kept: not still, each once -/
def makL (n : Nat) (Ls : List (List Int)) : List (List Int) := (Ls.filter fun L => decide (L ≠ up n)).foldl addU []
theorem makL_mem {n : Nat} {Ls : List (List Int)} {m : List Int} : m ∈ makL n Ls ↔ m ∈ Ls ∧ m ≠ up n := by
  unfold makL
  rw [addU_mem, List.mem_filter]
  simp
theorem makL_nodup {n : Nat} {Ls : List (List Int)} : (makL n Ls).Nodup := addU_nodup _ _ List.nodup_nil
theorem makL_len {n : Nat} {Ls : List (List Int)} : (makL n Ls).length ≤ Ls.length := by
  unfold makL
  have := addU_len (Ls.filter fun L => decide (L ≠ up n)) []
  have h2 := List.length_filter_le (fun L => decide (L ≠ up n)) Ls
  simp only [List.length_nil, Nat.zero_add] at this
  omega
section
variable {P : Program} {w : World} {K : PySem.W.Frag} {mg : Str → Option Value} {base : Heap}
/-! ### _unlike_makers, of turns -/
abbrev sUm : Stmt := s__unlike_makers
abbrev nUm : List Str := ["makers", "many", "maker"]
theorem scUm : FnScope nUm ["makers", "many"] (defScope sUm) := ⟨rfl, rfl, rfl, by decide +kernel, rfl, by decide +kernel, by decide +kernel⟩
def tIsT (K : PySem.W.Frag) : TE := tCall (spTurn K) [] E0 (tCons (tVar 2) (tCons (tVar 1) tNil))
def tNs (K : PySem.W.Frag) : TT := tTest (tOp (rNeD K) (tVar 2) (tCall spStill [] E0 (tCons (tVar 1) tNil)))
def spUm (K : PySem.W.Frag) : Sp := fun vs H Q _ => ∃ (p : Addr) (n : Nat) (bs : List Addr) (Ls : List (List Int)), vs = [.ref p, .int (n : Int)] ∧ SqA K H p (bs.map V.ref) ∧ TupsAt H bs Ls ∧ (∀ L ∈ Ls, Trn n L) ∧ 1 ≤ n ∧ n ≤ 12 ∧ Ls.length ≤ 60 ∧
  ∀ (l : Addr) (ds : List Addr) (H' : Hp), Same H H' → H l = none → H' l = some (.lst (ds.map V.ref)) → TupsAt H' ds (makL n Ls) → Q (.ref l) H'
theorem ok_um {f fL fT fS : Addr} {fd fdL fdT fdS : FuncData} (F : Fun K "_unlike_makers" "_unlike_makers" sUm f fd) (B : Bl mg) (hm60 : ∃ t, mg "_MOST_MAKERS" = some (.int 60 t)) (L : Df K mg "is_list" sIsLs ["thing"] fL fdL) (T : Df K mg "is_turn" sTurn ["thing", "many"] fT fdT) (GT : FnOk P w K mg base CX0 3 fT fdT ["thing", "many"] (spTurn K))
    (S : Df K mg "still" sStill ["many"] fS fdS) : FnOk P w K mg base CX0 4 f fd ["makers", "many"] (spUm K) := by
  have GL : FnOk P w K mg base CX0 1 fL fdL ["thing"] (spIsLs K) := ok_isLs L.F B
  have GS : FnOk P w K mg base CX0 1 fS fdS ["many"] spStill := ok_still S.F B
  obtain ⟨tm, hm⟩ := hm60
  refine F.ok scUm (fun vs H Q E h => ?_) (fun cdv A outer s H vs Q E hr h => ?_)
  · obtain ⟨p, n, bs, Ls, rfl, _⟩ := h
    rfl
  · obtain ⟨p, n, bs, Ls, rfl, hS, tL, trL, n1, n12, l60, q⟩ := h
    have hu := hu_of hr
    refine ⟨_, pss_cons (ps_if (pt_not (pt_val (pe_call GL (hr.mono (by decide)) rfl L.g L.F.kp L.b .nil pass0 (pa_cons (pv 0) pa_nil)))) (pss_one ps_never) pss_nil)
      (pss_cons (ps_if (pt_cmpR op_gt (pe_callB call_len_seq (by rfl) B.len PySem.boot_len (pa_cons (pv 0) pa_nil)) (pe_glob rfl hm (v := .int 60) ⟨_, rfl⟩) (nomark _)) (pss_one ps_never) pss_nil)
      (pss_cons (ps_if (pt_not (pt_val (pe_callB (cr_all rfl) (by rfl) B.all (by decide +kernel) (pa_cons (pe_lc (own := [("maker", 2)]) (g := gName 2) (tt := tYes) (te := tIsT K) rfl scUm.nd (pi_or (pi_list (pv 0)) (pi_tup (pv 0))) (blkOk_by (own := [("maker", 2)]) (N := nUm) (sc := defScope sUm) (by decide +kernel)) (fun _ _ _ _ _ => pg_name (i := 2) scUm.nd rfl (Or.inl rfl)) (fun _ _ _ _ _ => pts_nil) (fun _ _ _ _ _ => pe_call GT hr rfl T.g T.F.kp T.b .nil pass0 (pa_cons (pv 2) (pa_cons (pv 1) pa_nil)))) pa_nil)))) (pss_one ps_never) pss_nil)
      (pss_one (ps_ret (pe_callTy (call_list_dT rfl) (by rfl) B.list (by decide +kernel) (pa_cons (pe_dcG (o := .dT []) (.inr rfl) (Nat.lt_of_succ_lt hu) (own := [("maker", 2)]) (g := gName 2) (tt := tNs K) (tk := tVar 2) (tv := tC (V.bl true)) rfl scUm.nd (pi_or (pi_list (pv 0)) (pi_tup (pv 0))) (blkOk_by (own := [("maker", 2)]) (N := nUm) (sc := defScope sUm) (by decide +kernel)) (fun _ _ _ _ _ => pg_name (i := 2) scUm.nd rfl (Or.inl rfl)) (fun _ _ _ _ _ => pts_one (pt_cmpR (op_neD hr.units) (pv 2) (pe_call GS (hr.mono (by decide)) rfl S.g S.F.kp S.b .nil pass0 (pa_cons (pv 1) pa_nil)) (nomark _))) (fun _ _ _ _ _ => pv 2) (fun _ _ _ _ _ => pe_bl)) pa_nil)))))), ?_⟩
    show tSeq _ _ _ [some (.ref p), some (.int (n : Int)), none] H
    have eZ : sizeLine = 16777216 := rfl
    have lb := tL.len
    have lbz : (bs.map V.ref).length = bs.length := List.length_map _
    obtain ⟨Ty, ty, hty⟩ := hS.ty
    refine seq_gen (fun σ' H' => σ' = [some (.ref p), some (.int (n : Int)), none] ∧ Same H H') (fun nx hnx => ?_) ?_
    · refine ⟨_, rfl, .ref p, Ty, rfl, ty, fun H1 s1 => ?_⟩
      rw [hty]
      exact ⟨_, rfl, iteF (hnx _ _ ⟨rfl, s1⟩)⟩
    rintro σ1 H1 ⟨rfl, s1⟩
    refine seq_gen (fun σ' H' => σ' = [some (.ref p), some (.int (n : Int)), none] ∧ Same H H') (fun nx hnx => ?_) ?_
    · refine ⟨_, rfl, p, _, rfl, SqA.same s1 hS, _, _, rfl, rfl, _, rfl, ?_⟩
      rw [decide_eq_false (by rw [lbz]; omega)]
      exact iteF (hnx _ _ ⟨rfl, s1⟩)
    rintro σ2 H2 ⟨rfl, s2⟩
    refine seq_gen (fun σ' H' => σ' = [some (.ref p), some (.int (n : Int)), none] ∧ Same H H') (fun nx hnx => ?_) ?_
    · refine walkSq (SqA.same s2 hS) rfl fun J wk D hD => lc_gen wk (R := fun (a : Addr × List Int) y _ => y = V.bl true) (I := fun _ => True) (zs := []) (xs := bs.zip Ls) (kp := fun _ => true) (by rw [List.length_zip, lbz]; omega) (by rw [List.length_zip]; omega) hD (fun z => nomatch z) trivial (fun _ _ _ _ => trivial) (fun H3 b _ => b.same) ?_ fun H3 ys b _ hy pr => ?_
      · rintro i a x Hz H3 T F' ha b _ _ ⟨rfl, hx⟩ hT _
        have ma := TupsAt.zip tL a (List.mem_of_getElem? ha)
        have mz := List.mem_of_getElem? ha
        have hx' : x = .ref a.1 := by
          rw [List.getElem?_map] at hx
          obtain ⟨c, hc, e⟩ := Option.map_eq_some_iff.mp hx
          have := (List.getElem?_zip_eq_some.mp ha).1
          rw [hc] at this
          cases this
          exact e.symm
        subst hx'
        have tr := trL a.2 (List.of_mem_zip mz).2
        have h3 := SqT.of (K := K) ((Same.trans s2 b.same) _ _ ma)
        refine ⟨rfl, yesT ?_⟩
        show tIsT K [some (.ref p), some (.int (n : Int)), some (.ref a.1)] _ _
        refine ⟨_, rfl, _, rfl, .ref a.1, (n : Int), some (a.2.map V.int), rfl, thing_ints h3 (by rw [tr.len]; omega), fun H4 s4 => ?_⟩
        have e : thingB (some (a.2.map V.int)) (n : Int) = true := by
          have := turnB_of tr n1 (by omega)
          rw [tr.len] at this
          exact this
        rw [e]
        exact hT _ _ rfl (.of s4) trivial fun _ _ => rfl
      · have ey := pair_bls (f := fun _ => true) pr
        refine ⟨D, _, rfl, SqL.of (by rw [hy, ey]), _, rfl, ?_⟩
        have e : (((bs.zip Ls).filter fun _ => true).map fun _ => true).all id = true := by
          rw [List.all_eq_true]
          intro x hx
          obtain ⟨_, _, rfl⟩ := List.mem_map.mp hx
          rfl
        rw [e]
        exact iteF (hnx _ _ ⟨rfl, Same.trans s2 b.same⟩)
    rintro σ3 H3 ⟨rfl, s3⟩
    refine walkSq (SqA.same s3 hS) rfl fun J wk D hD => dcT_gen wk (xs := bs.zip Ls) (kp := fun a => decide (a.2 ≠ up n)) (kf := fun a => a.2) (vf := fun _ => .bl true) (by rw [List.length_zip, lbz]; omega) (by rw [List.length_zip]; omega) hD (fun H3 b => b) ?_ fun H4 s4 hk => ?_
    · rintro i a x Hz H4 T F' ha b ⟨rfl, hx⟩ hT hF
      have ma := TupsAt.zip tL a (List.mem_of_getElem? ha)
      have hx' : x = .ref a.1 := by
        rw [List.getElem?_map] at hx
        obtain ⟨c, hc, e⟩ := Option.map_eq_some_iff.mp hx
        have := (List.getElem?_zip_eq_some.mp ha).1
        rw [hc] at this
        cases this
        exact e.symm
      subst hx'
      have s4 := Same.trans s3 b
      refine ⟨rfl, ?_⟩
      show tNs K [some (.ref p), some (.int (n : Int)), some (.ref a.1)] _ _
      refine ⟨_, rfl, _, rfl, (n : Int), rfl, by omega, by omega, fun u H5 s5 hu5 => ?_⟩
      rw [show (n : Int).toNat = n by omega] at hu5
      refine p_neD (dp_tupT (SqT.of (s5 _ _ (s4 _ _ ma)))) (dp_tupT (SqT.of hu5)) (shapedT _) (shapedT _) ⟨_, rfl, ?_⟩
      rw [eqvT]
      by_cases c : a.2 = up n
      · rw [decide_eq_true c]
        exact iteF (hF _ (decide_eq_false fun z => z c) s5)
      · rw [decide_eq_false c]
        exact iteT ⟨_, rfl, hT _ _ (decide_eq_true c) s5 (s5 _ _ (s4 _ _ ma))⟩
    · refine ⟨D, _, rfl, .inl hk, fun l ds hl hb => q l ds _ (Same.trans s3 (Same.trans s4 (Same.new hl))) ?_ upd_same (TupsAt.same (Same.new hl) ?_)⟩
      · cases e : H l with
        | none => rfl
        | some o => rw [(Same.trans s3 s4) _ _ e] at hl; cases hl
      · have hkeys := dcF_keys tkey_inj (fun a : Addr × List Int => a.2) (fun _ => V.bl true) _ ((bs.zip Ls).filter fun a => decide (a.2 ≠ up n)) rfl
        have e : ((bs.zip Ls).filter fun a => decide (a.2 ≠ up n)).map (fun a => a.2) = Ls.filter fun L => decide (L ≠ up n) := by
          have : ∀ (bs : List Addr) (Ls : List (List Int)), bs.length = Ls.length → ((bs.zip Ls).filter fun a => decide (a.2 ≠ up n)).map (fun a => a.2) = Ls.filter fun L => decide (L ≠ up n) := by
            intro bs
            induction bs with
            | nil =>
              intro Ls h
              rw [List.eq_nil_of_length_eq_zero h.symm]
              rfl
            | cons b bs ih =>
              intro Ls h
              cases Ls with
              | nil => cases h
              | cons L Ls =>
                rw [List.zip_cons_cons, List.filter_cons, List.filter_cons]
                by_cases c : L = up n
                · rw [if_neg (by rw [decide_eq_false fun z => z c]; exact fun z => nomatch z), if_neg (by rw [decide_eq_false fun z => z c]; exact fun z => nomatch z)]
                  exact ih Ls (Nat.succ.inj h)
                · rw [if_pos (decide_eq_true c), if_pos (decide_eq_true c), List.map_cons, ih Ls (Nat.succ.inj h)]
          exact this bs Ls lb
        rw [e] at hkeys
        exact tups_of_keys hb hkeys
end
end Toy

-- part: KC6
namespace Toy
open PySem L2
section
variable {P : Program} {w : World} {K : PySem.W.Frag} {mg : Str → Option Value} {base : Heap}
/-! ### _base_letters, of a base -/
abbrev sBl : Stmt := s__base_letters
abbrev nBl : List Str := ["base", "many", "letter"]
theorem scBl : FnScope nBl ["base", "many"] (defScope sBl) := ⟨rfl, rfl, rfl, by decide +kernel, rfl, by decide +kernel, by decide +kernel⟩
def tIsL2 (K : PySem.W.Frag) : TE := tCall (spIsLet K) [] E0 (tCons (tVar 2) (tCons (tVar 1) tNil))
def tAbs2 : TE := tCB (fun xs H Q => ∃ i, xs = [.int i] ∧ Q (.int (if i < 0 then -i else i)) H) (tCons (tVar 2) tNil)
def spBl (K : PySem.W.Frag) : Sp := fun vs H Q _ => ∃ (p : Addr) (n : Nat) (fs : List Int), vs = [.ref p, .int (n : Int)] ∧ SqA K H p (fs.map V.int) ∧ (∀ l ∈ fs, Lt n l) ∧ (fs.map absI).Nodup ∧ fs.length ≤ 400 ∧
  ∀ (l : Addr) (H' : Hp), Same H H' → H l = none → H' l = some (.lst (fs.map V.int)) → Q (.ref l) H'
theorem letB_lt {n : Nat} {l : Int} (h : Lt n l) : letB (.int l) (n : Int) = true := by
  show (decide (1 ≤ absI l) && decide (absI l ≤ (n : Int))) = true
  rw [decide_eq_true h.1, decide_eq_true h.2]
  rfl
theorem ok_bl {f fL fT fN : Addr} {fd fdL fdT fdN : FuncData} (F : Fun K "_base_letters" "_base_letters" sBl f fd) (B : Bl mg) (L : Df K mg "is_list" sIsLs ["thing"] fL fdL) (N : Df K mg "is_number" sIsNum ["thing"] fN fdN) (T : Df K mg "is_letter" sIsLet ["thing", "many"] fT fdT) : FnOk P w K mg base CX0 3 f fd ["base", "many"] (spBl K) := by
  have GL : FnOk P w K mg base CX0 1 fL fdL ["thing"] (spIsLs K) := ok_isLs L.F B
  have GT : FnOk P w K mg base CX0 2 fT fdT ["thing", "many"] (spIsLet K) := ok_isLet T.F B N
  refine F.ok scBl (fun vs H Q E h => ?_) (fun cdv A outer s H vs Q E hr h => ?_)
  · obtain ⟨p, n, fs, rfl, _⟩ := h
    rfl
  · obtain ⟨p, n, fs, rfl, hS, lt, nd, l4, q⟩ := h
    have hu := hu_of hr
    refine ⟨_, pss_cons (ps_if (PW.pt (pw_or (pt_not (pt_val (pe_call GL (hr.mono (by decide)) rfl L.g L.F.kp L.b .nil pass0 (pa_cons (pv 0) pa_nil)))) (pw_or1 (pt_not (pt_val (pe_callB (cr_all rfl) (by rfl) B.all (by decide +kernel) (pa_cons (pe_lc (own := [("letter", 2)]) (g := gName 2) (tt := tYes) (te := tIsL2 K) rfl scBl.nd (pi_or (pi_list (pv 0)) (pi_tup (pv 0))) (blkOk_by (own := [("letter", 2)]) (N := nBl) (sc := defScope sBl) (by decide +kernel)) (fun _ _ _ _ _ => pg_name (i := 2) scBl.nd rfl (Or.inl rfl)) (fun _ _ _ _ _ => pts_nil) (fun _ _ _ _ _ => pe_call GT hr rfl T.g T.F.kp T.b .nil pass0 (pa_cons (pv 2) (pa_cons (pv 1) pa_nil)))) pa_nil))))))) (pss_one ps_never) pss_nil)
      (pss_cons (ps_if (pt_cmpR op_lt (pe_callB call_len_ints (by rfl) B.len PySem.boot_len (pa_cons (pe_setI (own := [("letter", 2)]) (g := gName 2) (te := tAbs2) rfl scBl.nd (pi_or (pi_list (pv 0)) (pi_tup (pv 0))) (blkOk_by (own := [("letter", 2)]) (N := nBl) (sc := defScope sBl) (by decide +kernel)) (fun _ _ _ _ _ => pg_name (i := 2) scBl.nd rfl (Or.inl rfl)) (fun _ _ _ _ _ => pe_callB call_abs (by rfl) B.abs (by decide +kernel) (pa_cons (pv 2) pa_nil))) pa_nil)) (pe_callB call_len_seq (by rfl) B.len PySem.boot_len (pa_cons (pv 0) pa_nil)) (nomark _)) (pss_one ps_never) pss_nil)
      (pss_one (ps_ret (pe_callTy call_list_of (by rfl) B.list (by decide +kernel) (pa_cons (pv 0) pa_nil))))), ?_⟩
    show tSeq _ _ _ [some (.ref p), some (.int (n : Int)), none] H
    have eZ : sizeLine = 16777216 := rfl
    have lfz : (fs.map V.int).length = fs.length := List.length_map _
    obtain ⟨Ty, ty, hty⟩ := hS.ty
    have geti : ∀ {i : Nat} {a : Int} {x : V}, fs[i]? = some a → (fs.map V.int)[i]? = some x → x = .int a := fun ha hx => by
      rw [List.getElem?_map, ha] at hx
      exact (Option.some.inj hx).symm
    refine seq_gen (fun σ' H' => σ' = [some (.ref p), some (.int (n : Int)), none] ∧ Same H H') (fun nx hnx => ?_) ?_
    · refine ⟨_, rfl, .ref p, Ty, rfl, ty, fun H1 s1 => ?_⟩
      rw [hty]
      refine ⟨_, rfl, iteF ?_⟩
      refine walkSq (SqA.same s1 hS) rfl fun J wk D hD => lc_gen wk (R := fun (a : Int) y _ => y = V.bl true) (I := fun _ => True) (zs := []) (xs := fs) (kp := fun _ => true) lfz.symm (by omega) hD (fun z => nomatch z) trivial (fun _ _ _ _ => trivial) (fun H3 b _ => b.same) ?_ fun H3 ys b _ hy pr => ?_
      · rintro i a x Hz H3 T F' ha b _ _ ⟨rfl, hx⟩ hT _
        cases geti ha hx
        refine ⟨rfl, yesT ?_⟩
        show tIsL2 K [some (.ref p), some (.int (n : Int)), some (.int a)] _ _
        refine ⟨_, rfl, _, rfl, .int a, "int", (n : Int), rfl, .int a, ?_⟩
        rw [letB_lt (lt a (List.mem_of_getElem? ha))]
        exact hT _ _ rfl .refl trivial fun _ _ => rfl
      · have ey := pair_bls (f := fun _ => true) pr
        refine ⟨D, _, rfl, SqL.of (by rw [hy, ey]), _, rfl, ?_⟩
        have e : ((fs.filter fun _ => true).map fun _ => true).all id = true := by
          rw [List.all_eq_true]
          intro x hx
          obtain ⟨_, _, rfl⟩ := List.mem_map.mp hx
          rfl
        rw [e]
        exact iteF (hnx _ _ ⟨rfl, Same.trans s1 b.same⟩)
    rintro σ1 H1 ⟨rfl, s1⟩
    refine seq_gen (fun σ' H' => σ' = [some (.ref p), some (.int (n : Int)), none] ∧ Same H H') (fun nx hnx => ?_) ?_
    · refine walkSq (SqA.same s1 hS) rfl fun J wk D2 hD2 => ?_
      refine st_it wk (fun j Hj => Same H1 Hj ∧ ∃ S, Hj D2 = some (SetO w D2 S (dist ((fs.take j).map absI))) ∧ ∀ k, S k = decide (k ∈ (fs.take j).map absI)) ⟨Same.new hD2, _, upd_same, fun k => by simp⟩ (fun j Hj _ ⟨e, _⟩ => e) ?_ ?_
      · rintro j x Hj Hk hj ⟨ej, S, hDj, hS'⟩ ⟨rfl, hx⟩
        have ez : fs[j]? = some (fs[j]'(by rw [lfz] at hj; exact hj)) := List.getElem?_eq_getElem _
        generalize fs[j]'(by rw [lfz] at hj; exact hj) = z at ez
        cases geti ez hx
        rw [lfz] at hj
        have tk : (fs.take (j + 1)).map absI = (fs.take j).map absI ++ [absI z] := by
          rw [List.take_add_one, ez]
          simp
        have ltd : dist ((fs.take j).map absI) ≤ j := by
          have := dist_le _ ((fs.take j).map absI) rfl
          rw [List.length_map, List.length_take] at this
          omega
        refine ⟨rfl, _, rfl, z, rfl, absI z, S, _, rfl, hDj, by show _ < 4096; omega, fun b o hb => ?_, (fun k => S k || decide (k = absI z)), ?_, fun k => ?_⟩
        · rw [upd_ne (ne_of_none hb hD2)]
          exact ej b o hb
        · have e : dist ((fs.take (j + 1)).map absI) = if S (absI z) = true then dist ((fs.take j).map absI) else dist ((fs.take j).map absI) + 1 := by
            rw [tk, dist_snoc, hS']
            by_cases h : absI z ∈ (fs.take j).map absI
            · rw [if_pos h, decide_eq_true h, if_pos rfl]
            · rw [if_neg h, decide_eq_false h, if_neg (by decide)]
          rw [e]
          exact upd_same
        · show (S k || decide (k = absI z)) = _
          rw [tk, hS', Bool.eq_iff_iff]
          simp
      · rintro H6 ⟨s6, S, hD6, hS'⟩
        rw [lfz, List.take_length] at hD6
        have dn := (dist_nodup fs.length (fs.map absI) (List.length_map _)).mpr nd
        have s16 := Same.trans s1 s6
        refine ⟨D2, S, _, rfl, hD6, by rw [dn]; omega, _, rfl, p, _, rfl, SqA.same s16 hS, _, _, rfl, rfl, _, rfl, ?_⟩
        rw [dn, lfz, decide_eq_false (by omega)]
        exact iteF (hnx _ _ ⟨rfl, s16⟩)
    rintro σ2 H2 ⟨rfl, s2⟩
    have nn : ∀ {l : Addr}, H2 l = none → H l = none := fun {l} hl => by
      cases e : H l with
      | none => rfl
      | some o => rw [s2 _ _ e] at hl; cases hl
    rcases SqA.same s2 hS with h | h
    · exact ⟨_, rfl, p, _, rfl, .inl h, fun l hl => q l _ (Same.trans s2 (Same.new hl)) (nn hl) upd_same⟩
    · exact ⟨_, rfl, p, _, rfl, .inr h, fun l hl => q l _ (Same.trans s2 (Same.new hl)) (nn hl) upd_same⟩
end
end Toy

-- part: KC7
namespace Toy
open PySem L2
/-! ### a group as it stands -/
def grF (n : Nat) (mk c pl : Addr) : List (Str × V) := [("_many", .int (n : Int)), ("_makers", .ref mk), ("_chain", .ref c), ("_places", .ref pl)]
theorem grF_put (n : Nat) (mk c pl : Addr) : putF "_places" (.ref pl) (putF "_chain" (.ref c) (putF "_makers" (.ref mk) (putF "_many" (.int (n : Int)) []))) = grF n mk c pl := by rfl
theorem ChAt.butI {C CC : Addr} {H H' : Hp} {n : Nat} {c la ga wa ma : Addr} {gs bs ms : List Addr} {lv : List Lv} {g dx : Addr} {f : List (Str × V)} (h : ChAt CC H n c la ga wa ma gs bs ms lv) (e : ButL [g] H H') (hg : H g = some (.ins C dx f)) (nc : c ≠ g) : ChAt CC H' n c la ga wa ma gs bs ms lv := by
  obtain ⟨⟨dy, h0⟩, h1, h2, h3, h4, l1, l2, l3, fl⟩ := h
  have no : ∀ {a : Addr} {o : HO}, H a = some o → (∀ C' d' f', o ≠ .ins C' d' f') → H' a = some o := fun {a o} ha nI => e a o ha fun z => by rw [List.mem_singleton.mp z, hg] at ha; exact nI _ _ _ (Option.some.inj ha).symm
  refine ⟨⟨dy, e _ _ h0 fun z => nc (List.mem_singleton.mp z)⟩, no h1 (fun _ _ _ z => by cases z), no h2 (fun _ _ _ z => by cases z), no h3 (fun _ _ _ z => by cases z), no h4 (fun _ _ _ z => by cases z), l1, l2, l3, fun i g1 b m v a1 a2 a3 a4 => ?_⟩
  have o := fl i g1 b m v a1 a2 a3 a4
  have o2 := o
  obtain ⟨⟨k3, y1, _⟩, ⟨k4, y2, _⟩, ⟨zs2, y3, _⟩⟩ := o2
  refine o.but (xs := [g]) e (fun a ha ys q => ?_) (fun q => ?_) (fun q => ?_) (fun q => ?_)
  · rw [List.mem_singleton.mp ha, hg] at q; cases q
  · rw [List.mem_singleton.mp q, hg] at y1; cases y1
  · rw [List.mem_singleton.mp q, hg] at y2; cases y2
  · rw [List.mem_singleton.mp q, hg] at y3; cases y3
/-- the places of the base: those of the letters that were handed in, and of those that a turn moves -/
def plB (k : Nat) (v : Nat × Lv) : Bool := decide (v.1 < k) || decide (1 < v.2.gs.length)
def plsL (k : Nat) (lv : List Lv) : List Nat := (((List.range lv.length).zip lv).filter (plB k)).map (·.1)
structure GrAt (C CC : Addr) (H : Hp) (g : Addr) (n : Nat) (fs : List Int) (Ls : List (List Int)) (lv : List Lv) (dx mk c pl la ga wa ma : Addr) (ds gs ws ms : List Addr) : Prop where
  ob : H g = some (.ins C dx (grF n mk c pl))
  mkr : H mk = some (.lst (ds.map V.ref))
  tm : TupsAt H ds (makL n Ls)
  ch : ChAt CC H n c la ga wa ma gs ws ms lv
  pl : H pl = some (.lst ((plsL fs.length lv).map fun (i : Nat) => V.int (i : Int)))
theorem GrAt.same {C CC : Addr} {H H' : Hp} {g : Addr} {n : Nat} {fs : List Int} {Ls : List (List Int)} {lv : List Lv} {dx mk c pl la ga wa ma : Addr} {ds gs ws ms : List Addr} (e : Same H H') (h : GrAt C CC H g n fs Ls lv dx mk c pl la ga wa ma ds gs ws ms) : GrAt C CC H' g n fs Ls lv dx mk c pl la ga wa ma ds gs ws ms :=
  ⟨e _ _ h.ob, e _ _ h.mkr, h.tm.same e, h.ch.same e, e _ _ h.pl⟩
/-- a group: of n truths, with the base fs, of the makers Ls; lv its floors -/
structure Grp (C CC : Addr) (H : Hp) (g : Addr) (n : Nat) (fs : List Int) (Ls : List (List Int)) (lv : List Lv) (ow : List Addr) : Prop where
  at_ : ∃ (dx mk c pl la ga wa ma : Addr) (ds gs ws ms : List Addr), GrAt C CC H g n fs Ls lv dx mk c pl la ga wa ma ds gs ws ms ∧ ow = g :: mk :: pl :: c :: la :: ga :: wa :: ma :: (gs ++ ws ++ ms)
  ok : ChOk n (fs ++ restL n fs) lv (makL n Ls)
  st : ∀ v ∈ lv, Strong n v.ms
  n1 : 1 ≤ n
  n12 : n ≤ 12
  tr : ∀ L ∈ Ls, Trn n L
  l60 : Ls.length ≤ 60
  lf : ∀ p ∈ fs, Lt n p
  nf : (fs.map absI).Nodup
/-- what is changed is no part of the group -/
theorem Grp.but {C CC : Addr} {H H' : Hp} {g : Addr} {n : Nat} {fs : List Int} {Ls : List (List Int)} {lv : List Lv} {ow zs : List Addr} (h : Grp C CC H g n fs Ls lv ow) (e : ButL zs H H') (no : ∀ z ∈ zs, z ∉ ow) (nt : ∀ z ∈ zs, ∀ ys, H z ≠ some (.tup ys)) : Grp C CC H' g n fs Ls lv ow := by
  obtain ⟨⟨dx, mk, c, pl, la, ga, wa, ma, ds, gs, ws, ms, A, eo⟩, h2, h3, h4, h5, h6, h7, h8, h9⟩ := h
  subst eo
  have st : ∀ {x : Addr} {o : HO}, H x = some o → x ∈ g :: mk :: pl :: c :: la :: ga :: wa :: ma :: (gs ++ ws ++ ms) → H' x = some o := fun {x o} hx hm => e x o hx fun z => no x z hm
  have tp : ∀ {x : Addr} {ys : List V}, H x = some (.tup ys) → H' x = some (.tup ys) := fun {x ys} hx => e x _ hx fun z => nt x z ys hx
  refine ⟨⟨dx, mk, c, pl, la, ga, wa, ma, ds, gs, ws, ms, ⟨st A.ob (by simp), st A.mkr (by simp), pairImp A.tm fun x c h => tp h, ?_, st A.pl (by simp)⟩, rfl⟩, h2, h3, h4, h5, h6, h7, h8, h9⟩
  obtain ⟨⟨dc, c0⟩, c1, c2, c3, c4, l1, l2, l3, fl⟩ := A.ch
  refine ⟨⟨dc, st c0 (by simp)⟩, st c1 (by simp), st c2 (by simp), st c3 (by simp), st c4 (by simp), l1, l2, l3, fun i g1 b m v a1 a2 a3 a4 => ?_⟩
  have i1 := List.mem_of_getElem? a1
  have i2 := List.mem_of_getElem? a2
  have i3 := List.mem_of_getElem? a3
  exact (fl i g1 b m v a1 a2 a3 a4).but (xs := zs) e (fun a ha ys q => nt a ha ys q) (fun z => no _ z (by simp [i1])) (fun z => no _ z (by simp [i2])) (fun z => no _ z (by simp [i3]))
theorem Grp.same {C CC : Addr} {H H' : Hp} {g : Addr} {n : Nat} {fs : List Int} {Ls : List (List Int)} {lv : List Lv} {ow : List Addr} (e : Same H H') (h : Grp C CC H g n fs Ls lv ow) : Grp C CC H' g n fs Ls lv ow := by
  obtain ⟨⟨dx, mk, c, pl, la, ga, wa, ma, ds, gs, ws, ms, h1, eo⟩, h2, h3, h4, h5, h6, h7, h8, h9⟩ := h
  exact ⟨⟨dx, mk, c, pl, la, ga, wa, ma, ds, gs, ws, ms, h1.same e, eo⟩, h2, h3, h4, h5, h6, h7, h8, h9⟩
section
variable {P : Program} {w : World} {K : PySem.W.Frag} {mg : Str → Option Value} {base : Heap}
abbrev sGI : Stmt := m_Group___init__
abbrev nGI : List Str := ["self", "many", "makers", "base", "at", "goals"]
theorem scGI : FnScope nGI ["self", "many", "makers", "base"] (defScope sGI) := ⟨rfl, rfl, rfl, by decide +kernel, rfl, by decide +kernel, by decide +kernel⟩
theorem okND {x qual : Str} {params : Arguments} {body : List Stmt} {scope : Scope} {dvs : List V} {kws : List (Str × V)} {f : Addr} {fd : FuncData} {N ps : List Str} {k : Nat} {sp : Sp} (F : FunD K x qual params body scope dvs kws f fd) (S : FnScope N ps scope) (len : ∀ vs H Q E, sp vs H Q E → vs.length = ps.length)
    (hb : ∀ (cdv : Value) (A : Around) (outer : List Env) (s : Shared) (H : Hp) (vs : List V) (Q : VK) (E : XK), Room k (A.deeper (PyProof.Rows.envOfC qual scope s.heap.objs.size f cdv)) → sp vs H Q E →
      ∃ t, PSs (cxOf CX0 P w K mg base N qual scope f cdv A outer s H E).nox body t ∧ t { nx := fun _ H' => Q .non H', rt := Q } (start N vs) H) : FnOk P w K mg base CX0 (k + 1) f fd ps sp :=
  FunD.ok F S len fun cdv A outer s H vs Q E hr hsp => by
    obtain ⟨t, h, q⟩ := hb cdv A outer s H vs Q E hr hsp
    exact ⟨t, h.nox, q⟩
def tPlc (K : PySem.W.Frag) : TT := tOr (tTest (tOp (rI0 fun i j => V.bl (decide (i < j))) (tVar 4) (tCB (rLenK K) (tCons (tVar 3) tNil)))) (tTest (tOp (rI0 fun i j => V.bl (decide (i > j))) (tCB (fun xs H Q => ∃ p kvs, xs = [V.ref p] ∧ H p = some (.dK kvs) ∧ Q (.int kvs.length) H) (tCons (tVar 5) tNil)) (tC (.int 1))))
def spGI (K : PySem.W.Frag) (C CC : Addr) : Sp := fun vs H Q _ => ∃ (g p qa dx : Addr) (n : Nat) (bs : List Addr) (Ls : List (List Int)) (fs : List Int), vs = [.ref g, .int (n : Int), .ref p, .ref qa] ∧ H g = some (.ins C dx []) ∧ SqA K H p (bs.map V.ref) ∧ TupsAt H bs Ls ∧ (∀ L ∈ Ls, Trn n L) ∧ 1 ≤ n ∧ n ≤ 12 ∧ Ls.length ≤ 60 ∧ SqA K H qa (fs.map V.int) ∧ (∀ l ∈ fs, Lt n l) ∧ (fs.map absI).Nodup ∧
  ∀ (lv : List Lv) (ow : List Addr) (H' : Hp), Grp C CC H' g n fs Ls lv ow → (∀ x ∈ ow, x = g ∨ H x = none) → ButL [g] H H' → Q .non H'
theorem ok_gi {f fN fU fCo fBl C CC : Addr} {fd fdN fdU fdCo fdBl : FuncData} {dvs : List V} {kws : List (Str × V)} (F : FunD K "__init__" "Group.__init__" (defArgs sGI) (defBody sGI) (defScope sGI) dvs kws f fd) (B : Bl mg) (cl : Cls K C) (na1 : NoAttr K C "_many") (na2 : NoAttr K C "_makers") (na3 : NoAttr K C "_chain") (na4 : NoAttr K C "_places")
    (ccl : Cls K CC) (cna2 : NoAttr K CC "goals") (hm12 : ∃ t, mg "MOST_TRUTHS" = some (.int 12 t)) (N : Df K mg "is_number" sIsNum ["thing"] fN fdN) (U : Df K mg "_unlike_makers" sUm ["makers", "many"] fU fdU) (GU : FnOk P w K mg base CX0 4 fU fdU ["makers", "many"] (spUm K))
    (Co : Df K mg "_chain_of" sCo ["many", "firsts", "makers"] fCo fdCo) (GCo : FnOk P w K mg base CX0 17 fCo fdCo ["many", "firsts", "makers"] (spCo CC)) (Bs : Df K mg "_base_letters" sBl ["base", "many"] fBl fdBl) (GBs : FnOk P w K mg base CX0 3 fBl fdBl ["base", "many"] (spBl K)) :
    FnOk P w K mg base CX0 18 f fd ["self", "many", "makers", "base"] (spGI K C CC) := by
  have GN : FnOk P w K mg base CX0 1 fN fdN ["thing"] (spIsNum K) := ok_isNum N.F B
  obtain ⟨tm, hm⟩ := hm12
  refine okND F scGI (fun vs H Q E h => ?_) (fun cdv A outer s H vs Q E hr h => ?_)
  · obtain ⟨g, p, qa, dx, n, bs, Ls, fs, rfl, _⟩ := h
    rfl
  · obtain ⟨g, p, qa, dx, n, bs, Ls, fs, rfl, hg, hS, tL, trL, n1, n12, l60, hB, ltf, ndf, q⟩ := h
    have hu := hu_of hr
    refine ⟨_, pss_cons (ps_if (PW.pt (pw_or (pt_not (pt_val (pe_call GN (hr.mono (by decide)) rfl N.g N.F.kp N.b .nil pass0 (pa_cons (pv 1) pa_nil)))) (pw_or1 (pt_not (pt_chain op_le op_le pe_int (pv 1) (pe_glob rfl hm (v := .int 12) ⟨_, rfl⟩)))))) (pss_one ps_never) pss_nil)
      (pss_cons (ps_fld (pv 0) (pv 1) rfl)
      (pss_cons (ps_fld (pv 0) (pe_call GU (hr.mono (by decide)) rfl U.g U.F.kp U.b .nil pass0 (pa_cons (pv 2) (pa_cons (pv 1) pa_nil))) rfl)
      (pss_cons (ps_fld (pv 0) (pe_call GCo hr rfl Co.g Co.F.kp Co.b .nil pass0 (pa_cons (pv 1) (pa_cons (pe_call GBs (hr.mono (by decide)) rfl Bs.g Bs.F.kp Bs.b .nil pass0 (pa_cons (pv 3) (pa_cons (pv 1) pa_nil))) (pa_cons (pe_fld (pv 0) rfl) pa_nil)))) rfl)
      (pss_one (ps_fld (pv 0) (pe_lc (own := [("at", 4), ("goals", 5)]) (g := gTup K 2 (gCons (gName 4) (gCons (gName 5) gNil))) (tt := tPlc K) (te := tVar 4) rfl scGI.nd (pi_enum (by rfl) B.enumerate (pa_cons (pe_fld (pe_fld (pv 0) rfl) rfl) pa_nil)) (blkOk_by (own := [("at", 4), ("goals", 5)]) (N := nGI) (sc := defScope sGI) (by decide +kernel)) (fun _ _ _ _ _ => pg_tup rfl (pgs_cons (pg_name (i := 4) scGI.nd rfl (Or.inl rfl)) (pgs_cons (pg_name (i := 5) scGI.nd rfl (Or.inl rfl)) pgs_nil))) (fun _ _ _ _ _ => pts_one (PW.pt (pw_or (pt_cmpR op_lt (pv 4) (pe_callB call_len_seq (by rfl) B.len PySem.boot_len (pa_cons (pv 3) pa_nil)) (nomark _)) (pw_or1 (pt_cmpR op_gt (pe_callB call_lenD (by rfl) B.len PySem.boot_len (pa_cons (pv 5) pa_nil)) pe_int (nomark _)))))) (fun _ _ _ _ _ => pv 4)) rfl))))), ?_⟩
    show tSeq _ _ _ [some (.ref g), some (.int (n : Int)), some (.ref p), some (.ref qa), none, none] H
    have eZ : sizeLine = 16777216 := rfl
    have lB : (fs.map V.int).length = fs.length := List.length_map _
    refine seq_gen (fun σ' H' => σ' = [some (.ref g), some (.int (n : Int)), some (.ref p), some (.ref qa), none, none] ∧ H' = H) (fun nx hnx => ?_) ?_
    · refine ⟨_, rfl, .int (n : Int), "int", rfl, .int _, ?_⟩
      walk_at "rd"
      refine iteF ?_
      rw [decide_eq_true (show (1 : Int) ≤ (n : Int) by omega), decide_eq_true (show (n : Int) ≤ 12 by omega)]
      exact iteT (iteF (hnx _ _ ⟨rfl, rfl⟩))
    rintro σ0 H0 ⟨rfl, rfl⟩
    have Exn : ∀ {Ha Hb : Hp} {y : Addr} {o : HO}, ButL [g] Ha Hb → (∃ f, Ha g = some (.ins C dx f)) → (∀ f, o ≠ .ins C dx f) → Ha y = some o → Hb y = some o := fun b ⟨f, hf⟩ no h => b _ _ h fun z => by rw [List.mem_singleton.mp z, hf] at h; exact no _ (Option.some.inj h).symm
    -- _many
    refine seq_gen (fun σ' H' => σ' = [some (.ref g), some (.int (n : Int)), some (.ref p), some (.ref qa), none, none] ∧ H' = upd H0 g (.ins C dx (putF "_many" (.int (n : Int)) []))) (fun nx hnx => ?_) ?_
    · exact ⟨_, rfl, _, rfl, g, C, dx, _, rfl, hg, cl, na1, (by show 0 < 1000; decide), hnx _ _ ⟨rfl, rfl⟩⟩
    rintro σ1 H1' ⟨rfl, rfl⟩
    have ngS : ∀ {y : Addr} {xs : List V}, SqA K H0 y xs → SqA K (upd H0 g (.ins C dx (putF "_many" (.int (n : Int)) []))) y xs := fun {y xs} h => by
      have e : Ex g H0 (upd H0 g (.ins C dx (putF "_many" (.int (n : Int)) []))) := Ex.at
      rcases h with h | h
      · refine .inl ?_
        rcases h with (h | ⟨o, h⟩) | h
        · exact .inl (.inl (e _ _ h fun z => by rw [z, hg] at h; cases h))
        · exact .inl (.inr ⟨o, e _ _ h fun z => by rw [z, hg] at h; cases h⟩)
        · exact .inr h
      · refine .inr ?_
        rcases h with (h | ⟨o, h⟩) | h
        · exact .inl (.inl (e _ _ h fun z => by rw [z, hg] at h; cases h))
        · exact .inl (.inr ⟨o, e _ _ h fun z => by rw [z, hg] at h; cases h⟩)
        · exact .inr h
    have hSp := ngS hS
    have hBq := ngS hB
    have tL1 : TupsAt (upd H0 g (.ins C dx (putF "_many" (.int (n : Int)) []))) bs Ls := pairImp tL fun x c h => by rw [upd_ne (fun z => by rw [z, hg] at h; cases h)]; exact h
    have b1 : ButL [g] H0 (upd H0 g (.ins C dx (putF "_many" (.int (n : Int)) []))) := ButL.at List.mem_cons_self
    have hg1 : upd H0 g (.ins C dx (putF "_many" (.int (n : Int)) [])) g = some (.ins C dx (putF "_many" (.int (n : Int)) [])) := upd_same
    generalize upd H0 g (.ins C dx (putF "_many" (.int (n : Int)) [])) = H1 at hSp hBq tL1 b1 hg1
    clear ngS
    -- _makers
    refine seq_gen (fun σ' H' => σ' = [some (.ref g), some (.int (n : Int)), some (.ref p), some (.ref qa), none, none] ∧ ∃ (mk : Addr) (ds : List Addr), H' g = some (.ins C dx (putF "_makers" (.ref mk) (putF "_many" (.int (n : Int)) []))) ∧ ButL [g] H1 H' ∧ H1 mk = none ∧ H' mk = some (.lst (ds.map V.ref)) ∧ TupsAt H' ds (makL n Ls) ∧ SqA K H' qa (fs.map V.int)) (fun nx hnx => ?_) ?_
    · refine ⟨_, rfl, _, rfl, p, n, bs, Ls, rfl, hSp, tL1, trL, n1, n12, l60, fun l ds H2 s2 nl hl tm => ?_⟩
      have hg2 := s2 _ _ hg1
      refine ⟨_, rfl, g, C, dx, _, rfl, hg2, cl, na2, (by show 1 < 1000; decide), hnx _ _ ⟨rfl, l, ds, upd_same, ?_, ?_, ?_, ?_, ?_⟩⟩
      · exact (ButL.of s2).trans (ButL.at List.mem_cons_self)
      · exact nl
      · rw [upd_ne (fun z => by rw [z, hg2] at hl; cases hl)]; exact hl
      · exact pairImp tm fun x c h => by rw [upd_ne (fun z => by rw [z, hg2] at h; cases h)]; exact h
      · have e : Ex g H2 (upd H2 g (.ins C dx (putF "_makers" (.ref l) (putF "_many" (.int (n : Int)) [])))) := Ex.at
        rcases SqA.same s2 hBq with h | h
        · refine .inl ?_
          rcases h with (h | ⟨o, h⟩) | h
          · exact .inl (.inl (e _ _ h fun z => by rw [z, hg2] at h; cases h))
          · exact .inl (.inr ⟨o, e _ _ h fun z => by rw [z, hg2] at h; cases h⟩)
          · exact .inr h
        · refine .inr ?_
          rcases h with (h | ⟨o, h⟩) | h
          · exact .inl (.inl (e _ _ h fun z => by rw [z, hg2] at h; cases h))
          · exact .inl (.inr ⟨o, e _ _ h fun z => by rw [z, hg2] at h; cases h⟩)
          · exact .inr h
    rintro σ2 H2 ⟨rfl, mk, ds, hg2, b2, nmk, hmk, tm, hBq2⟩
    have trM : ∀ L ∈ makL n Ls, Trn n L := fun L hL => trL L (makL_mem.mp hL).1
    -- _chain
    refine seq_gen (fun σ' H' => σ' = [some (.ref g), some (.int (n : Int)), some (.ref p), some (.ref qa), none, none] ∧ ∃ (c la ga wa ma : Addr) (gs ws ms : List Addr) (lv : List Lv), H' g = some (.ins C dx (putF "_chain" (.ref c) (putF "_makers" (.ref mk) (putF "_many" (.int (n : Int)) [])))) ∧ ButL [g] H2 H' ∧ H' mk = some (.lst (ds.map V.ref)) ∧ TupsAt H' ds (makL n Ls) ∧ ChAt CC H' n c la ga wa ma gs ws ms lv ∧ ChOk n (fs ++ restL n fs) lv (makL n Ls) ∧ (∀ v ∈ lv, Strong n v.ms) ∧ c ≠ g ∧ (∀ x ∈ c :: la :: ga :: wa :: ma :: (gs ++ ws ++ ms), H2 x = none) ∧ SqA K H' qa (fs.map V.int)) (fun nx hnx => ?_) ?_
    · refine ⟨_, rfl, _, rfl, _, rfl, qa, n, fs, rfl, hBq2, ltf, ndf, by have := restL_len ltf ndf; rw [List.length_append] at this; omega, fun fa H3 s3 nfa hfa => ?_⟩
      have hg3 := s3 _ _ hg2
      refine ⟨_, rfl, g, C, dx, _, _, rfl, hg3, cl, na2, rfl, fa, mk, n, fs, ds, makL n Ls, rfl, hfa, ltf, ndf, s3 _ _ hmk, tm.same s3, trM, n1, n12, fun c la ga wa ma gs ws ms lv H4 ch ok st s4 nco => ?_⟩
      have nc := nco c List.mem_cons_self
      have hg4 := s4 _ _ hg3
      have ncg : c ≠ g := fun z => by rw [z, hg3] at nc; cases nc
      have s24 := Same.trans s3 s4
      have b4 : ButL [g] H4 (upd H4 g (.ins C dx (putF "_chain" (.ref c) (putF "_makers" (.ref mk) (putF "_many" (.int (n : Int)) []))))) := ButL.at List.mem_cons_self
      refine ⟨_, rfl, g, C, dx, _, rfl, hg4, cl, na3, (by show 2 < 1000; decide), hnx _ _ ⟨rfl, c, la, ga, wa, ma, gs, ws, ms, lv, upd_same, (ButL.of s24).trans b4, ?_, ?_, ch.butI b4 hg4 ncg, ok, st, ncg, fun x hx => Same.nn s3 (nco x hx), ?_⟩⟩
      · exact Exn b4 ⟨_, hg4⟩ (fun f z => by cases z) (s24 _ _ hmk)
      · exact pairImp (tm.same s24) fun x c h => Exn b4 ⟨_, hg4⟩ (fun f z => by cases z) h
      · have e : Ex g H4 (upd H4 g (.ins C dx (putF "_chain" (.ref c) (putF "_makers" (.ref mk) (putF "_many" (.int (n : Int)) []))))) := Ex.at
        rcases SqA.same s24 hBq2 with h | h
        · refine .inl ?_
          rcases h with (h | ⟨o, h⟩) | h
          · exact .inl (.inl (e _ _ h fun z => by rw [z, hg4] at h; cases h))
          · exact .inl (.inr ⟨o, e _ _ h fun z => by rw [z, hg4] at h; cases h⟩)
          · exact .inr h
        · refine .inr ?_
          rcases h with (h | ⟨o, h⟩) | h
          · exact .inl (.inl (e _ _ h fun z => by rw [z, hg4] at h; cases h))
          · exact .inl (.inr ⟨o, e _ _ h fun z => by rw [z, hg4] at h; cases h⟩)
          · exact .inr h
    rintro σ3 H3 ⟨rfl, c, la, ga, wa, ma, gs, ws, ms, lv, hg3, b3, hmk3, tm3, ch3, ok3, st3, ncg, nco, hBq3⟩
    -- _places
    obtain ⟨dc, oc⟩ := ch3.ob
    have lsl := restL_len ltf ndf
    have lvn : lv.length = n := by rw [← lsl, ← ok3.pts, List.length_map]
    have lgs : (gs.map V.ref).length = lv.length := by rw [List.length_map]; exact ch3.lg
    have lz : ((List.range lv.length).zip lv).length = lv.length := by rw [List.length_zip, List.length_range]; omega
    refine ⟨_, rfl, g, C, dx, _, _, rfl, hg3, cl, na3, rfl, c, CC, dc, _, _, rfl, oc, ccl, cna2, rfl, ga, _, rfl, SqL.of ch3.ga, fun D hD => ?_⟩
    refine lc_gen (walk_enum (K := K) (a := ga) (xs := gs.map V.ref)) (R := fun (a : Nat × Lv) y _ => y = .int (a.1 : Int)) (I := fun _ => True) (zs := []) (xs := (List.range lv.length).zip lv) (kp := plB fs.length) (by rw [lz, lgs]) (by rw [lz]; omega) hD (fun z => nomatch z) trivial (fun _ _ _ _ => trivial) (fun H4 b _ => SqL.of (b _ _ ch3.ga fun z => nomatch z)) ?_ fun H4 ys b _ hy pr => ?_
    · rintro i a x Hz H4 T F' ha b _ _ ⟨t, x1, y1, rfl, nt, rfl, e1, e2⟩ hT hF
      cases e1
      obtain ⟨ha1, ha2⟩ := List.getElem?_zip_eq_some.mp ha
      obtain ⟨il, ei⟩ := List.getElem?_eq_some_iff.mp ha1
      rw [List.getElem_range] at ei
      rw [List.length_range] at il
      obtain ⟨ai, av⟩ := a
      dsimp only at ei ha2
      subst ei
      replace e2 : (gs.map V.ref)[i]? = some y1 := e2
      rw [List.getElem?_map] at e2
      obtain ⟨ad, had, rfl⟩ := Option.map_eq_some_iff.mp e2
      have s4 : Same Hz (upd Hz t (.tup [.int (i : Nat), .ref ad])) := Same.new nt
      obtain ⟨⟨kv, hkv, pk⟩, _, _⟩ := ch3.fl i ad _ _ av had (List.getElem?_eq_getElem (by rw [ch3.lb]; exact il)) (List.getElem?_eq_getElem (by rw [ch3.lm]; exact il)) ha2
      have hkv4 := s4 _ _ (b _ _ hkv fun z => nomatch z)
      have lkv : kv.length = av.gs.length := pk.length
      refine ⟨t, _, rfl, SqT.of upd_same, rfl, _, _, rfl, _, _, rfl, rfl, rfl, ?_⟩
      show tPlc K [some (.ref g), some (.int (n : Int)), some (.ref p), some (.ref qa), some (.int (i : Nat)), some (.ref ad)] _ _
      have hq4 := SqA.same (Same.trans b.same s4) hBq3
      refine ⟨_, rfl, _, rfl, qa, _, rfl, hq4, _, _, rfl, rfl, _, rfl, ?_⟩
      rw [lB]
      by_cases c1 : i < fs.length
      · rw [decide_eq_true (by omega)]
        refine iteT (iteT ⟨_, rfl, hT _ _ ?_ (.of s4) trivial fun _ _ => rfl⟩)
        unfold plB
        rw [decide_eq_true (show (i, av).1 < fs.length from c1)]
        rfl
      · rw [decide_eq_false (by omega)]
        refine iteF ⟨_, rfl, ad, kv, rfl, hkv4, _, _, rfl, rfl, _, rfl, ?_⟩
        have e0 : plB fs.length (i, av) = decide (1 < av.gs.length) := by
          unfold plB
          rw [decide_eq_false (show ¬ (i, av).1 < fs.length from c1)]
          rfl
        by_cases c2 : 1 < av.gs.length
        · rw [decide_eq_true (by omega)]
          exact iteT ⟨_, rfl, hT _ _ (e0.trans (decide_eq_true c2)) (.of s4) trivial fun _ _ => rfl⟩
        · rw [decide_eq_false (by omega)]
          exact iteF (hF _ (e0.trans (decide_eq_false c2)) (.of s4) trivial)
    · have ey : ys = (plsL fs.length lv).map fun (i : Nat) => V.int (i : Int) := by
        unfold plsL
        have : ∀ {ys : List V} {l : List (Nat × Lv)}, Paired (fun y (a : Nat × Lv) => y = V.int (a.1 : Int)) ys l → ys = (l.map (·.1)).map fun (i : Nat) => V.int (i : Int) := by
          intro ys l h
          induction h with
          | nil => rfl
          | cons h _ ih => rw [h, ih]; rfl
        exact this pr
      have s4 := b.same
      have hg4 := s4 _ _ hg3
      have b5 : ButL [g] H4 (upd H4 g (.ins C dx (putF "_places" (.ref D) (putF "_chain" (.ref c) (putF "_makers" (.ref mk) (putF "_many" (.int (n : Int)) [])))))) := ButL.at List.mem_cons_self
      refine ⟨_, rfl, g, C, dx, _, rfl, hg4, cl, na4, (by show 3 < 1000; decide), q lv _ _ ⟨⟨dx, mk, c, D, la, ga, wa, ma, ds, gs, ws, ms, ⟨?_, ?_, ?_, (ch3.same s4).butI b5 hg4 ncg, ?_⟩, rfl⟩, ok3, st3, n1, n12, trL, l60, ltf, ndf⟩ (fun x hx => ?_) (b1.trans (b2.trans (b3.trans ((ButL.of s4).trans b5))))⟩
      · rw [upd_same, grF_put]
      · exact Exn b5 ⟨_, hg4⟩ (fun f z => by cases z) (s4 _ _ hmk3)
      · exact pairImp (tm3.same s4) fun x c h => Exn b5 ⟨_, hg4⟩ (fun f z => by cases z) h
      · rw [← ey]
        exact Exn b5 ⟨_, hg4⟩ (fun f z => by cases z) hy
      · have nn : ∀ {Ha Hb : Hp} {y : Addr}, ButL [g] Ha Hb → (∃ o, Hb g = some o) → Hb y = none → Ha y = none := fun b ⟨o, ho⟩ h => b.none h fun z => by rw [List.mem_singleton.mp z, ho] at h; cases h
        rcases List.mem_cons.mp hx with h | hx
        · exact .inl h
        right
        rcases List.mem_cons.mp hx with rfl | hx
        · exact nn b1 ⟨_, hg1⟩ nmk
        rcases List.mem_cons.mp hx with rfl | hx
        · exact nn b1 ⟨_, hg1⟩ (nn b2 ⟨_, hg2⟩ (nn b3 ⟨_, hg3⟩ hD))
        · exact nn b1 ⟨_, hg1⟩ (nn b2 ⟨_, hg2⟩ (nco x hx))
end
end Toy

-- part: KM1
namespace Toy
open PySem L2
/-! ### what a group tells: truths, makers, size -/
theorem sizeV_snoc (v : Lv) : ∀ lv : List Lv, sizeV (lv ++ [v]) = sizeV lv * v.gs.length
  | [] => by
    show v.gs.length * 1 = 1 * v.gs.length
    omega
  | u :: r => by
    show u.gs.length * sizeV (r ++ [v]) = u.gs.length * sizeV r * v.gs.length
    rw [sizeV_snoc v r, Nat.mul_assoc]
theorem sizeV_le {m : Nat} : ∀ {lv : List Lv}, (∀ v ∈ lv, v.gs.length ≤ m) → sizeV lv ≤ m ^ lv.length
  | [], _ => Nat.le_refl _
  | v :: r, h => by
    show v.gs.length * sizeV r ≤ m ^ (r.length + 1)
    rw [Nat.pow_succ, Nat.mul_comm]
    exact Nat.mul_le_mul (sizeV_le fun u hu => h u (List.mem_cons_of_mem _ hu)) (h v List.mem_cons_self)
theorem full_lv {n : Nat} : ∀ {lv : List Lv}, Full n lv → ∀ v ∈ lv, LvOk n v
  | [], _, v, hv => nomatch hv
  | w :: r, h, v, hv => by
    rcases List.mem_cons.mp hv with rfl | hv
    · exact h.2.1
    · exact full_lv h.1 v hv
section
variable {P : Program} {w : World} {K : PySem.W.Frag} {mg : Str → Option Value} {base : Heap}
/-! ### Chain.size -/
abbrev sCz : Stmt := m_Chain_size
abbrev nCz : List Str := ["self", "size", "goals"]
theorem scCz : FnScope nCz ["self"] (defScope sCz) := ⟨rfl, rfl, rfl, by decide +kernel, rfl, by decide +kernel, by decide +kernel⟩
def spCz (CC : Addr) : Sp := fun vs H Q _ => ∃ (c la ga wa ma : Addr) (gs ws ms : List Addr) (lv : List Lv) (n : Nat), vs = [.ref c] ∧ ChAt CC H n c la ga wa ma gs ws ms lv ∧ n ≤ 12 ∧ lv.length ≤ 12 ∧ Full n lv ∧ KeyNd lv ∧ Q (.int (sizeV lv : Int)) H
theorem ok_cz {f CC : Addr} {fd : FuncData} (F : Fun K "size" "Chain.size" sCz f fd) (B : Bl mg) (cl : Cls K CC) (na2 : NoAttr K CC "goals") : FnOk P w K mg base CX0 1 f fd ["self"] (spCz CC) := by
  refine F.ok scCz (fun vs H Q E h => ?_) (fun cdv A outer s H vs Q E hr h => ?_)
  · obtain ⟨c, la, ga, wa, ma, gs, ws, ms, lv, n, rfl, _⟩ := h
    rfl
  · obtain ⟨c, la, ga, wa, ma, gs, ws, ms, lv, n, rfl, ch, n12, l12, fu, kd, q⟩ := h
    refine ⟨_, pss_cons (ps_set (i := 1) scCz.nd rfl (Or.inl rfl) pe_int)
      (pss_cons (ps_for PassesOwn.never rfl (pi_list (pe_fld (pv 0) rfl)) (pg_name (i := 2) scCz.nd rfl (Or.inl rfl)) (pss_one (ps_set (i := 1) scCz.nd rfl (Or.inl rfl) (pe_op op_mul (pv 1) (pe_callB call_lenD (by rfl) B.len PySem.boot_len (pa_cons (pv 2) pa_nil))))))
      (pss_one (ps_ret (pv 1)))), ?_⟩
    show tSeq _ _ _ [some (.ref c), none, none] H
    obtain ⟨dx, ob⟩ := ch.ob
    refine seq_gen (fun σ' H' => σ' = [some (.ref c), some (.int 1), none] ∧ H' = H) (fun nx hnx => hnx _ _ ⟨rfl, rfl⟩) ?_
    rintro σ1 H1 ⟨rfl, rfl⟩
    refine seq_gen (fun σ' H' => ∃ l2, σ' = [some (.ref c), some (.int (sizeV lv : Int)), l2] ∧ H' = H1) (fun nx hnx => ?_) ?_
    · refine ⟨_, rfl, c, CC, dx, _, _, rfl, ob, cl, na2, rfl, ga, rfl, ⟨_, SqL.of ch.ga⟩, for_list (xs := gs.map V.ref) (fun i σ' H' => ∃ l2, σ' = [some (.ref c), some (.int (sizeV (lv.take i) : Int)), l2] ∧ H' = H1) ⟨none, rfl, rfl⟩ (fun i σ' H' _ ⟨_, _, e⟩ => by rw [e]; exact SqL.of ch.ga) ?_ ?_⟩
      · rintro i x σ' H' hx ⟨l2, rfl, rfl⟩
        rw [List.getElem?_map] at hx
        obtain ⟨g, hg, rfl⟩ := Option.map_eq_some_iff.mp hx
        have il : i < lv.length := by rw [← ch.lg]; exact (List.getElem?_eq_some_iff.mp hg).1
        have hv := List.getElem?_eq_getElem il
        generalize lv[i] = v at hv
        obtain ⟨⟨kv, hkv, pk⟩, _, _⟩ := ch.fl i g _ _ v hg (List.getElem?_eq_getElem (by rw [ch.lb]; exact il)) (List.getElem?_eq_getElem (by rw [ch.lm]; exact il)) hv
        have lk : kv.length = v.gs.length := pk.length
        have small : sizeV (lv.take i) ≤ 24 ^ 12 := by
          refine Nat.le_trans (sizeV_le (m := 24) fun u hu => ?_) (Nat.pow_le_pow_right (by decide) (by rw [List.length_take]; omega))
          have hu' := List.mem_of_mem_take hu
          have := goals_few (full_lv fu u hu') (kd u hu')
          omega
        have e24 : (24 : Nat) ^ 12 = 36520347436056576 := by decide
        refine ⟨_, rfl, _, rfl, g, kv, rfl, hkv, _, _, rfl, rfl, .inl ⟨by omega, by omega⟩, some (.ref g), ?_, rfl⟩
        rw [lk, List.take_add_one, hv]
        show [some (V.ref c), some (V.int ((sizeV (lv.take i) : Int) * (v.gs.length : Int))), some (V.ref g)] = _
        simp only [Option.toList_some]
        rw [sizeV_snoc, Int.natCast_mul]
      · rintro σ' H' ⟨l2, rfl, rfl⟩
        rw [List.length_map, ch.lg, List.take_length]
        exact hnx _ _ ⟨l2, rfl, rfl⟩
    rintro σ2 H2 ⟨l2, rfl, rfl⟩
    exact ⟨_, rfl, q⟩
/-! ### Group.truths, makers, size -/
abbrev sGt : Stmt := m_Group_truths
theorem scGt : FnScope ["self"] ["self"] (defScope sGt) := ⟨rfl, rfl, rfl, by decide +kernel, rfl, by decide +kernel, by decide +kernel⟩
def spGt (C CC : Addr) : Sp := fun vs H Q _ => ∃ (g : Addr) (n : Nat) (fs : List Int) (Ls : List (List Int)) (lv : List Lv) (ow : List Addr), vs = [.ref g] ∧ Grp C CC H g n fs Ls lv ow ∧ Q (.int (n : Int)) H
theorem ok_gt {f C CC : Addr} {fd : FuncData} (F : Fun K "truths" "Group.truths" sGt f fd) (cl : Cls K C) (na1 : NoAttr K C "_many") : FnOk P w K mg base CX0 1 f fd ["self"] (spGt C CC) := by
  refine F.ok scGt (fun vs H Q E h => ?_) (fun cdv A outer s H vs Q E hr h => ?_)
  · obtain ⟨g, n, fs, Ls, lv, ow, rfl, _⟩ := h
    rfl
  · obtain ⟨g, n, fs, Ls, lv, ow, rfl, G, q⟩ := h
    obtain ⟨dx, mk, c, pl, la, ga, wa, ma, ds, gs, ws, ms, A, _⟩ := G.at_
    refine ⟨_, pss_one (ps_ret (pe_fld (pv 0) rfl)), ?_⟩
    show tRet _ _ [some (.ref g)] H
    exact ⟨_, rfl, g, C, dx, _, _, rfl, A.ob, cl, na1, rfl, q⟩
abbrev sGm : Stmt := m_Group_makers
theorem scGm : FnScope ["self"] ["self"] (defScope sGm) := ⟨rfl, rfl, rfl, by decide +kernel, rfl, by decide +kernel, by decide +kernel⟩
def spGm (C CC : Addr) : Sp := fun vs H Q _ => ∃ (g : Addr) (n : Nat) (fs : List Int) (Ls : List (List Int)) (lv : List Lv) (ow : List Addr), vs = [.ref g] ∧ Grp C CC H g n fs Ls lv ow ∧
  ∀ (l : Addr) (ds : List Addr) (H' : Hp), Same H H' → H l = none → H' l = some (.lst (ds.map V.ref)) → TupsAt H' ds (makL n Ls) → Q (.ref l) H'
theorem ok_gm {f C CC : Addr} {fd : FuncData} (F : Fun K "makers" "Group.makers" sGm f fd) (B : Bl mg) (cl : Cls K C) (na2 : NoAttr K C "_makers") : FnOk P w K mg base CX0 1 f fd ["self"] (spGm C CC) := by
  refine F.ok scGm (fun vs H Q E h => ?_) (fun cdv A outer s H vs Q E hr h => ?_)
  · obtain ⟨g, n, fs, Ls, lv, ow, rfl, _⟩ := h
    rfl
  · obtain ⟨g, n, fs, Ls, lv, ow, rfl, G, q⟩ := h
    obtain ⟨dx, mk, c, pl, la, ga, wa, ma, ds, gs, ws, ms, A, _⟩ := G.at_
    refine ⟨_, pss_one (ps_ret (pe_callTy call_list_of (by rfl) B.list (by decide +kernel) (pa_cons (pe_fld (pv 0) rfl) pa_nil))), ?_⟩
    show tRet _ _ [some (.ref g)] H
    exact ⟨_, rfl, g, C, dx, _, _, rfl, A.ob, cl, na2, rfl, mk, _, rfl, .inl (SqL.of A.mkr), fun l hl => q l ds _ (Same.new hl) hl upd_same (A.tm.same (Same.new hl))⟩
abbrev sGs : Stmt := m_Group_size
theorem scGs : FnScope ["self"] ["self"] (defScope sGs) := ⟨rfl, rfl, rfl, by decide +kernel, rfl, by decide +kernel, by decide +kernel⟩
def spGs (C CC : Addr) : Sp := fun vs H Q _ => ∃ (g : Addr) (n : Nat) (fs : List Int) (Ls : List (List Int)) (lv : List Lv) (ow : List Addr), vs = [.ref g] ∧ Grp C CC H g n fs Ls lv ow ∧ Q (.int (sizeV lv : Int)) H
theorem grp_len {C CC : Addr} {H : Hp} {g : Addr} {n : Nat} {fs : List Int} {Ls : List (List Int)} {lv : List Lv} {ow : List Addr} (G : Grp C CC H g n fs Ls lv ow) : lv.length = n := by
  rw [← restL_len G.lf G.nf, ← G.ok.pts, List.length_map]
theorem ok_gs {f fz C CC : Addr} {fd fdz : FuncData} (F : Fun K "size" "Group.size" sGs f fd) (B : Bl mg) (cl : Cls K C) (na3 : NoAttr K C "_chain") (ccl : Cls K CC) (mZ : Meth K CC "size" fz) (bZ : Binds K fdz ["self"] []) (GZ : FnOk P w K mg base CX0 1 fz fdz ["self"] (spCz CC)) : FnOk P w K mg base CX0 2 f fd ["self"] (spGs C CC) := by
  refine F.ok scGs (fun vs H Q E h => ?_) (fun cdv A outer s H vs Q E hr h => ?_)
  · obtain ⟨g, n, fs, Ls, lv, ow, rfl, _⟩ := h
    rfl
  · obtain ⟨g, n, fs, Ls, lv, ow, rfl, G, q⟩ := h
    obtain ⟨dx, mk, c, pl, la, ga, wa, ma, ds, gs, ws, ms, A, _⟩ := G.at_
    obtain ⟨dc, oc⟩ := A.ch.ob
    refine ⟨_, pss_one (ps_ret (pe_meth0 (pe_fld (pv 0) rfl) ccl mZ GZ hr bZ .nil pass0)), ?_⟩
    show tRet _ _ [some (.ref g)] H
    have hl := grp_len G
    exact ⟨_, rfl, g, C, dx, _, _, rfl, A.ob, cl, na3, rfl, c, dc, _, rfl, oc, rfl, c, la, ga, wa, ma, gs, ws, ms, lv, n, rfl, A.ch, G.n12, by have := G.n12; omega, G.ok.full, G.ok.kd, q⟩
end
/-- the turns of a group are what its makers make -/
theorem gen_makL {n : Nat} {Ls : List (List Int)} (tr : ∀ L ∈ Ls, Trn n L) (t : List Int) : Gen n (makL n Ls) t ↔ Gen n Ls t := by
  constructor
  · exact fun g => Gen.into tr (fun m hm => Gen.of tr (makL_mem.mp hm).1) g
  · refine fun g => Gen.into (fun m hm => tr m (makL_mem.mp hm).1) (fun m hm => ?_) g
    by_cases c : m = up n
    · rw [c]; exact .one
    · exact Gen.of (fun m hm => tr m (makL_mem.mp hm).1) (makL_mem.mpr ⟨hm, c⟩)
theorem Grp.size {C CC : Addr} {H : Hp} {g : Addr} {n : Nat} {fs : List Int} {Ls : List (List Int)} {lv : List Lv} {ow : List Addr} (G : Grp C CC H g n fs Ls lv ow) {A : List (List Int)} (nd : A.Nodup) (hA : ∀ t, t ∈ A ↔ Gen n Ls t) : sizeV lv = A.length :=
  G.ok.size (restL_all G.lf G.nf) nd fun t => (hA t).trans (gen_makL G.tr t).symm
end Toy

-- part: KM2
namespace Toy
open PySem L2
/-! ### floors: those turns that leave the letters before, and where they lead -/
/-- the turns of a floor: those of all that leave the letters ahead of it -/
theorem drop_gen {n : Nat} : ∀ {lv : List Lv} {F : List Int}, Full n lv → Enough n F lv → (∀ p ∈ F, Lt n p) → (∀ t, GenL n lv t → Keeps F t) → ∀ i t, GenL n (lv.drop i) t ↔ GenL n lv t ∧ ∀ v ∈ lv.take i, gL t v.pt = v.pt
  | lv, F, h, en, hF, gk, 0, t => ⟨fun g => ⟨g, fun v hv => nomatch hv⟩, fun g => g.1⟩
  | [], F, h, en, hF, gk, i + 1, t => ⟨fun g => ⟨g, fun v hv => by simp at hv⟩, fun g => g.1⟩
  | v :: r, F, h, en, hF, gk, i + 1, t => by
    have hw := h
    obtain ⟨h1, h2, h3, h4⟩ := h
    have hF2 : ∀ p ∈ v.pt :: F, Lt n p := fun p hp => by rcases List.mem_cons.mp hp with rfl | hp; exact h2.pt; exact hF p hp
    have gk2 : ∀ t, GenL n r t → Keeps (v.pt :: F) t := fun t' g' p hp => by
      rcases List.mem_cons.mp hp with rfl | hp
      · exact (h3 _ g').2
      · exact gk _ (h3 _ g').1 p hp
    have ih := drop_gen h1 en.next hF2 gk2 i t
    show GenL n (r.drop i) t ↔ _
    rw [ih]
    constructor
    · rintro ⟨g, k⟩
      refine ⟨(h3 t g).1, fun u hu => ?_⟩
      rcases List.mem_cons.mp hu with rfl | hu
      · exact (h3 t g).2
      · exact k u hu
    · rintro ⟨g, k⟩
      refine ⟨?_, fun u hu => k u (List.mem_cons_of_mem _ hu)⟩
      have kv := k v List.mem_cons_self
      obtain ⟨u, b, hu, hb, s⟩ := gen_sift hw en hF gk g
      rw [kv, h2.one] at hu
      cases hu
      have tt : Trn n t := Gen.trn h2.tr g
      rw [(bk_one n).uniq (trn_up n) hb |>.symm, join_one tt] at s
      exact sift_gen h1 en.next hF2 gk2 tt (fun p hp => by
        rcases List.mem_cons.mp hp with rfl | hp
        · exact kv
        · exact gk t g p hp) s
/-- a floor's letters: where its turns lead its letter -/
theorem goals_iff {n : Nat} {v : Lv} {r : List Lv} {F : List Int} (h : Full n (v :: r)) (en : Enough n F (v :: r)) (hF : ∀ p ∈ F, Lt n p) (gk : ∀ t, GenL n (v :: r) t → Keeps F t) (g : Int) : (∃ u, v.gs.lookup g = some u) ↔ ∃ t, GenL n (v :: r) t ∧ gL t v.pt = g := by
  constructor
  · rintro ⟨u, hu⟩
    exact ⟨u, (h.2.1.way g u hu).1, (h.2.1.way g u hu).2⟩
  · rintro ⟨t, gt, rfl⟩
    obtain ⟨u, b, hu, _, _⟩ := gen_sift h en hF gk gt
    exact ⟨u, hu⟩
/-- what a group's floors tell -/
theorem Grp.goals {C CC : Addr} {H : Hp} {g : Addr} {n : Nat} {fs : List Int} {Ls : List (List Int)} {lv : List Lv} {ow : List Addr} (G : Grp C CC H g n fs Ls lv ow) {i : Nat} {v : Lv} (hv : lv[i]? = some v) :
    (fs ++ restL n fs)[i]? = some v.pt ∧ (∀ k u, v.gs.lookup k = some u → Gen n Ls u ∧ (∀ p ∈ (fs ++ restL n fs).take i, gL u p = p) ∧ gL u v.pt = k) ∧ ∀ t, Gen n Ls t → (∀ p ∈ (fs ++ restL n fs).take i, gL t p = p) → ∃ u, v.gs.lookup (gL t v.pt) = some u := by
  have al := restL_all G.lf G.nf
  have en := G.ok.enough al
  have il : i < lv.length := (List.getElem?_eq_some_iff.mp hv).1
  have dr : lv.drop i = v :: lv.drop (i + 1) := by rw [List.drop_eq_getElem_cons il, (List.getElem?_eq_some_iff.mp hv).2]
  have D := fun t => drop_gen G.ok.full en (fun p hp => nomatch hp) (fun _ _ p hp => nomatch hp) i t
  have tk : ∀ t : List Int, (∀ w ∈ lv.take i, gL t w.pt = w.pt) ↔ ∀ p ∈ (fs ++ restL n fs).take i, gL t p = p := fun t => by
    rw [← G.ok.pts, ← List.map_take]
    constructor
    · intro h p hp
      obtain ⟨w, hw, rfl⟩ := List.mem_map.mp hp
      exact h w hw
    · intro h w hw
      exact h _ (List.mem_map.mpr ⟨w, hw, rfl⟩)
  have G0 : ∀ t, GenL n lv t ↔ Gen n Ls t := fun t => (G.ok.gen t).trans (gen_makL G.tr t)
  have fd := full_drop G.ok.full i
  have key : ∀ t, GenL n (v :: lv.drop (i + 1)) t ↔ Gen n Ls t ∧ ∀ p ∈ (fs ++ restL n fs).take i, gL t p = p := fun t => by
    rw [← dr, D t, G0 t, tk t]
  rw [dr] at fd
  refine ⟨?_, fun k u hu => ?_, fun t gt kt => ?_⟩
  · rw [← G.ok.pts, List.getElem?_map, hv]
    rfl
  · have w := fd.2.1.way k u hu
    have := (key u).mp w.1
    exact ⟨this.1, this.2, w.2⟩
  · have ht := (key t).mpr ⟨gt, kt⟩
    have en2 : Enough n ((lv.take i).map (·.pt)) (v :: lv.drop (i + 1)) := fun t tt kk f => en t tt (fun p hp => nomatch hp) fun w hw => by
      rw [← List.take_append_drop i lv] at hw
      rcases List.mem_append.mp hw with h | h
      · exact kk _ (List.mem_map.mpr ⟨w, h, rfl⟩)
      · rw [dr] at h
        exact f w h
    refine (goals_iff fd en2 (fun p hp => ?_) (fun t g => ?_) (gL t v.pt)).mpr ⟨t, ht, rfl⟩
    · obtain ⟨w, hw, rfl⟩ := List.mem_map.mp hp
      exact full_pt G.ok.full w (List.mem_of_mem_take hw)
    · intro p hp
      obtain ⟨w, hw, rfl⟩ := List.mem_map.mp hp
      rw [← dr] at g
      exact ((D t).mp g).2 w hw
end Toy

-- part: KM3
namespace Toy
open PySem L2
/-- a floor as it is told: its letters rising, with their turns -/
def WayAt (H : Hp) (kv : Key × V) (z : Int × List Int) : Prop := kv.1 = .inl z.1 ∧ ∃ a, kv.2 = .ref a ∧ H a = some (.tup (z.2.map V.int))
structure RisOk (gs zs : List (Int × List Int)) : Prop where
  inc : (zs.map (·.1)).Pairwise (· < ·)
  look : ∀ k, zs.lookup k = gs.lookup k
theorem dcF_nodup {κ α : Type} [DecidableEq κ] (kf : α → κ) (vf : α → V) : ∀ n : Nat, ∀ l : List α, l.length = n → (l.map kf).Nodup → dcF kf vf l = l.map fun a => (kf a, vf a)
  | 0, l, h, _ => by rw [List.eq_nil_of_length_eq_zero h]; rfl
  | n + 1, l, h, nd => by
    obtain ⟨r, k, rfl⟩ : ∃ (r : List α) (k : α), l = r ++ [k] := ⟨_, _, (List.dropLast_concat_getLast (fun z => by rw [z] at h; cases h)).symm⟩
    have hr : r.length = n := by rw [List.length_append] at h; exact Nat.succ.inj h
    rw [List.map_append] at nd
    obtain ⟨n1, _, n3⟩ := List.nodup_append.mp nd
    rw [dcF_snoc, dcF_nodup kf vf n r hr n1, List.map_append]
    refine putK_new (vf k) (valV_none.mpr fun z => ?_)
    rw [List.map_map] at z
    obtain ⟨a, ha, e⟩ := List.mem_map.mp z
    exact n3 (kf a) (List.mem_map.mpr ⟨a, ha, rfl⟩) (kf k) (List.mem_map.mpr ⟨k, List.mem_singleton.mpr rfl, rfl⟩) e
theorem look_map {f : Int → List Int} : ∀ {ns : List Int} (k : Int), (ns.map fun k => (k, f k)).lookup k = if k ∈ ns then some (f k) else none
  | [], k => by simp
  | x :: r, k => by
    rw [List.map_cons, List.lookup_cons]
    by_cases c : k = x
    · subst c
      rw [beq_self_eq_true, if_pos List.mem_cons_self]
    · rw [beq_false_of_ne c, look_map k]
      by_cases d : k ∈ r
      · rw [if_pos d, if_pos (List.mem_cons_of_mem _ d)]
      · rw [if_neg d, if_neg fun z => (List.mem_cons.mp z).elim c d]
section
variable {P : Program} {w : World} {K : PySem.W.Frag} {mg : Str → Option Value} {base : Heap}
/-! ### _rising -/
abbrev sRs : Stmt := s__rising
abbrev nRs : List Str := ["floor", "letter"]
theorem scRs : FnScope nRs ["floor"] (defScope sRs) := ⟨rfl, rfl, rfl, by decide +kernel, rfl, by decide +kernel, by decide +kernel⟩
def tFl : TE := tDGet (tVar 0) (tVar 1)
def spRs : Sp := fun vs H Q _ => ∃ (g : Addr) (kvs : List (Key × V)) (gs : List (Int × List Int)), vs = [.ref g] ∧ H g = some (.dK kvs) ∧ Paired (WayAt H) kvs gs ∧ (gs.map (·.1)).Nodup ∧ gs.length ≤ 1000 ∧
  ∀ (p : Addr) (kv2 : List (Key × V)) (zs : List (Int × List Int)) (H' : Hp), Same H H' → H p = none → H' p = some (.dK kv2) → Paired (WayAt H') kv2 zs → RisOk gs zs → Q (.ref p) H'
theorem ok_rs {f : Addr} {fd : FuncData} (F : Fun K "_rising" "_rising" sRs f fd) (B : Bl mg) : FnOk P w K mg base CX0 1 f fd ["floor"] spRs := by
  refine F.ok scRs (fun vs H Q E h => ?_) (fun cdv A outer s H vs Q E hr h => ?_)
  · obtain ⟨g, kvs, gs, rfl, _⟩ := h
    rfl
  · obtain ⟨g, kvs, gs, rfl, hg, pk, nd, l1, q⟩ := h
    have hu := hu_of hr
    refine ⟨_, pss_one (ps_ret (pe_dc (own := [("letter", 1)]) (g := gName 1) (tt := tYes) (tk := tVar 1) (tv := tFl) rfl scRs.nd (pi_list (pe_callB cr_sortedI (by rfl) B.sorted (by decide +kernel) (pa_cons (pe_callTy (call_list_dK rfl) (by rfl) B.list (by decide +kernel) (pa_cons (pv 0) pa_nil)) pa_nil))) (blkOk_by (own := [("letter", 1)]) (N := nRs) (sc := defScope sRs) (by decide +kernel)) (fun _ _ _ _ _ => pg_name (i := 1) scRs.nd rfl (Or.inl rfl)) (fun _ _ _ _ _ => pts_nil) (fun _ _ _ _ _ => pv 1) (fun _ _ _ _ _ => pe_dget hu (pv 0) (pv 1) (fun _ _ => rfl)))), ?_⟩
    show tRet _ _ [some (.ref g), none] H
    have eZ : sizeLine = 16777216 := rfl
    have lk : kvs.length = gs.length := pk.length
    have keys : kvs.map (fun kv => kV kv.1) = (gs.map (·.1)).map V.int := by
      have : ∀ {kvs : List (Key × V)} {gs : List (Int × List Int)}, Paired (WayAt H) kvs gs → kvs.map (fun kv => kV kv.1) = (gs.map (·.1)).map V.int := by
        intro kvs gs h
        induction h with
        | nil => rfl
        | cons h _ ih =>
          rw [List.map_cons, ih, h.1]
          rfl
      exact this pk
    refine ⟨_, rfl, g, kvs, rfl, hg, fun l hl => ?_⟩
    rw [keys]
    have sl := Same.new (o := .lst ((gs.map (·.1)).map V.int)) hl
    refine ⟨l, gs.map (·.1), rfl, SqL.of upd_same, fun ns p1 pm rise hp1 => ?_⟩
    have s1 := Same.new (o := .lst (ns.map V.int)) hp1
    have s01 := Same.trans sl s1
    have hns : upd (upd H l (.lst ((gs.map (·.1)).map V.int))) p1 (.lst (ns.map V.int)) p1 = some (.lst (ns.map V.int)) := upd_same
    generalize upd (upd H l (.lst ((gs.map (·.1)).map V.int))) p1 (.lst (ns.map V.int)) = H1 at *
    have ndn : ns.Nodup := pm.nodup_iff.mpr nd
    have inc : ns.Pairwise (· < ·) := (rise.and ndn).imp fun h => by have := h.1; have := h.2; omega
    have ln : ns.length = gs.length := by rw [pm.length_eq, List.length_map]
    refine ⟨p1, rfl, ⟨_, SqL.of hns⟩, fun D hD => dc_gen (walk_list (K := K) (a := p1) (xs := ns.map V.int)) (xs := ns) (kp := fun _ => true) (kf := fun k => Sum.inl k) (vf := fun k => (valV kvs (.inl k)).getD .non) (List.length_map _).symm (by omega) hD (fun H2 b => SqL.of (b _ _ hns)) ?_ fun H2 b hk => ?_⟩
    · rintro i a x Hz H2 T F' ha b ⟨rfl, hx⟩ hT _
      rw [List.getElem?_map, ha] at hx
      cases hx
      refine ⟨rfl, yesT ⟨_, rfl, ?_⟩⟩
      show tFl [some (.ref g), some (.int a)] _ _
      have mem : a ∈ gs.map (·.1) := pm.mem_iff.mp (List.mem_of_getElem? ha)
      obtain ⟨v, hv⟩ : ∃ v, valV kvs (.inl a) = some v := by
        cases e : valV kvs (.inl a) with
        | some v => exact ⟨v, rfl⟩
        | none =>
          exfalso
          refine valV_none.mp e ?_
          have : kvs.map (·.1) = (gs.map (·.1)).map Sum.inl := by
            have : ∀ {kvs : List (Key × V)} {gs : List (Int × List Int)}, Paired (WayAt H) kvs gs → kvs.map (·.1) = (gs.map (·.1)).map Sum.inl := by
              intro kvs gs h
              induction h with
              | nil => rfl
              | cons h _ ih =>
                rw [List.map_cons, ih, h.1]
                rfl
            exact this pk
          rw [this]
          exact List.mem_map.mpr ⟨a, mem, rfl⟩
      refine ⟨_, rfl, _, rfl, g, v, rfl, ?_, ?_⟩
      · rw [← hv]
        exact DGet.k (k := .inl a) (b _ _ (s01 _ _ hg))
      · have := hT H2 rfl (Same.refl _)
        rw [hv] at this
        exact this
    · rw [List.filter_eq_self.mpr fun _ _ => rfl, dcF_nodup _ _ _ ns rfl (by rw [List.nodup_iff_pairwise_ne, List.pairwise_map]; exact (List.nodup_iff_pairwise_ne.mp ndn).imp fun h e => h (Sum.inl.inj e))] at hk
      have s02 := Same.trans s01 b
      have pk2 : Paired (WayAt H2) kvs gs := pairImp pk fun kv z h => ⟨h.1, h.2.imp fun a h => ⟨h.1, s02 _ _ h.2⟩⟩
      refine q D _ (ns.map fun k => (k, (gs.lookup k).getD [])) H2 s02 (Same.nn s01 hD) hk ?_ ⟨?_, fun k => ?_⟩
      · have : ∀ l : List Int, (∀ k ∈ l, k ∈ gs.map (·.1)) → Paired (WayAt H2) (l.map fun a => (Sum.inl a, (valV kvs (.inl a)).getD .non)) (l.map fun k => (k, (gs.lookup k).getD [])) := by
          intro l
          induction l with
          | nil => intro _; exact .nil
          | cons k r ih =>
            intro h
            refine .cons ?_ (ih fun x hx => h x (List.mem_cons_of_mem _ hx))
            rcases paired_look pk2 k with ⟨e1, e2⟩ | ⟨u, a, e1, e2, ha⟩
            · exfalso
              obtain ⟨z, hz, ez⟩ := List.mem_map.mp (h k List.mem_cons_self)
              have := mem_look nd (show (z.1, z.2) ∈ gs from hz)
              rw [ez, e1] at this
              cases this
            · refine ⟨rfl, a, ?_, ?_⟩
              · show (valV kvs (.inl k)).getD .non = _
                rw [e2]
                rfl
              · show H2 a = some (.tup (((gs.lookup k).getD []).map V.int))
                rw [e1]
                exact ha
        exact this ns fun k hk => pm.mem_iff.mp hk
      · rw [List.map_map]
        have : (ns.map ((fun (z : Int × List Int) => z.1) ∘ fun k => (k, (gs.lookup k).getD []))) = ns := (List.map_congr_left fun _ _ => rfl).trans (List.map_id ns)
        rw [this]
        exact inc
      · rw [look_map]
        by_cases c : k ∈ ns
        · rw [if_pos c]
          obtain ⟨z, hz, ez⟩ := List.mem_map.mp (pm.mem_iff.mp c)
          have := mem_look nd (show (z.1, z.2) ∈ gs from hz)
          rw [ez] at this
          rw [this]
          rfl
        · rw [if_neg c]
          cases e : gs.lookup k with
          | none => rfl
          | some u => exact absurd (pm.mem_iff.mpr (List.mem_map.mpr ⟨_, look_mem e, rfl⟩)) c
end
end Toy

-- part: KM4
namespace Toy
open PySem L2
def basL (n : Nat) (fs : List Int) (lv : List Lv) : List Int := (plsL fs.length lv).map fun i => (fs ++ restL n fs).getD i 0
theorem plsL_lt {k : Nat} {lv : List Lv} {i : Nat} (h : i ∈ plsL k lv) : i < lv.length := by
  obtain ⟨a, ha, rfl⟩ := List.mem_map.mp h
  exact List.mem_range.mp (List.of_mem_zip (List.mem_filter.mp ha).1).1
theorem pair_ints {α : Type} {f : α → Int} : ∀ {ys : List V} {l : List α}, Paired (fun y a => y = V.int (f a)) ys l → ys = (l.map f).map V.int
  | _, _, .nil => rfl
  | _, _, .cons h t => by rw [h, pair_ints t]; rfl
/-- a floor as it is told, at p -/
def FlTold (H : Hp) (gs : List (Int × List Int)) (p : Addr) : Prop := ∃ (kvs : List (Key × V)) (zs : List (Int × List Int)), H p = some (.dK kvs) ∧ Paired (WayAt H) kvs zs ∧ RisOk gs zs
section
variable {P : Program} {w : World} {K : PySem.W.Frag} {mg : Str → Option Value} {base : Heap}
/-! ### Group.base, Group.floors -/
abbrev sGb : Stmt := m_Group_base
abbrev nGb : List Str := ["self", "at"]
theorem scGb : FnScope nGb ["self"] (defScope sGb) := ⟨rfl, rfl, rfl, by decide +kernel, rfl, by decide +kernel, by decide +kernel⟩
def tLa (K : PySem.W.Frag) : TE := tOp (rIxL K) (tFld K (tFld K (tVar 0) "_chain") "letters") (tVar 1)
def tRsg (K : PySem.W.Frag) : TE := tCall spRs [] E0 (tCons (tOp (rIxL K) (tFld K (tFld K (tVar 0) "_chain") "goals") (tVar 1)) tNil)
def spGb (C CC : Addr) : Sp := fun vs H Q _ => ∃ (g : Addr) (n : Nat) (fs : List Int) (Ls : List (List Int)) (lv : List Lv) (ow : List Addr), vs = [.ref g] ∧ Grp C CC H g n fs Ls lv ow ∧
  ∀ (l : Addr) (H' : Hp), Same H H' → H l = none → H' l = some (.lst ((basL n fs lv).map V.int)) → Q (.ref l) H'
theorem ok_gb {f C CC : Addr} {fd : FuncData} (F : Fun K "base" "Group.base" sGb f fd) (B : Bl mg) (cl : Cls K C) (na3 : NoAttr K C "_chain") (na4 : NoAttr K C "_places") (ccl : Cls K CC) (cna1 : NoAttr K CC "letters") : FnOk P w K mg base CX0 1 f fd ["self"] (spGb C CC) := by
  refine F.ok scGb (fun vs H Q E h => ?_) (fun cdv A outer s H vs Q E hr h => ?_)
  · obtain ⟨g, n, fs, Ls, lv, ow, rfl, _⟩ := h
    rfl
  · obtain ⟨g, n, fs, Ls, lv, ow, rfl, G, q⟩ := h
    obtain ⟨dx, mk, c, pl, la, ga, wa, ma, ds, gs, ws, ms, A, _⟩ := G.at_
    obtain ⟨dc, oc⟩ := A.ch.ob
    refine ⟨_, pss_one (ps_ret (pe_lc (own := [("at", 1)]) (g := gName 1) (tt := tYes) (te := tLa K) rfl scGb.nd (pi_list (pe_fld (pv 0) rfl)) (blkOk_by (own := [("at", 1)]) (N := nGb) (sc := defScope sGb) (by decide +kernel)) (fun _ _ _ _ _ => pg_name (i := 1) scGb.nd rfl (Or.inl rfl)) (fun _ _ _ _ _ => pts_nil) (fun _ _ _ _ _ => pe_ix ix_list (pe_fld (pe_fld (pv 0) rfl) rfl) (pv 1) (fun _ _ => rfl)))), ?_⟩
    show tRet _ _ [some (.ref g), none] H
    have eZ : sizeLine = 16777216 := rfl
    have lvn := grp_len G
    have n12 := G.n12
    have lpl : (plsL fs.length lv).length ≤ lv.length := by
      unfold plsL
      rw [List.length_map]
      refine Nat.le_trans (List.length_filter_le _ _) ?_
      rw [List.length_zip, List.length_range]
      omega
    refine ⟨_, rfl, g, C, dx, _, _, rfl, A.ob, cl, na4, rfl, pl, rfl, ⟨_, SqL.of A.pl⟩, fun D hD => lc_gen (walk_list (K := K) (a := pl) (xs := (plsL fs.length lv).map fun (i : Nat) => V.int (i : Int))) (R := fun (a : Nat) y _ => y = V.int ((fs ++ restL n fs).getD a 0)) (I := fun _ => True) (zs := []) (xs := plsL fs.length lv) (kp := fun _ => true) (List.length_map _).symm (by omega) hD (fun z => nomatch z) trivial (fun _ _ _ _ => trivial) (fun H2 b _ => SqL.of (b.same _ _ A.pl)) ?_ fun H2 ys b _ hy pr => ?_⟩
    · rintro i a x Hz H2 T F' ha b _ _ ⟨rfl, hx⟩ hT _
      rw [List.getElem?_map, ha] at hx
      cases hx
      have al := plsL_lt (List.mem_of_getElem? ha)
      refine ⟨rfl, yesT ?_⟩
      have at' : atI ((lv.map (·.pt)).map V.int) (a : Int) = some (V.int ((fs ++ restL n fs).getD a 0)) := by
        refine atI_nat ?_
        rw [G.ok.pts, List.getElem?_map, List.getD_eq_getElem?_getD, List.getElem?_eq_getElem (by rw [← G.ok.pts, List.length_map]; exact al)]
        rfl
      exact ⟨_, rfl, g, C, dx, _, _, rfl, b.same _ _ A.ob, cl, na3, rfl, c, CC, dc, _, _, rfl, b.same _ _ oc, ccl, cna1, rfl, _, rfl, p_ix (SqL.of (b.same _ _ A.ch.la)) at' (hT _ _ rfl .refl trivial fun _ _ => rfl)⟩
    · rw [List.filter_eq_self.mpr fun _ _ => rfl] at pr
      have ey := pair_ints (f := fun a => (fs ++ restL n fs).getD a 0) pr
      exact q D H2 b.same hD (by rw [hy, ey]; rfl)
abbrev sGf : Stmt := m_Group_floors
abbrev nGf : List Str := ["self", "at"]
theorem scGf : FnScope nGf ["self"] (defScope sGf) := ⟨rfl, rfl, rfl, by decide +kernel, rfl, by decide +kernel, by decide +kernel⟩
def spGf (C CC : Addr) : Sp := fun vs H Q _ => ∃ (g : Addr) (n : Nat) (fs : List Int) (Ls : List (List Int)) (lv : List Lv) (ow : List Addr), vs = [.ref g] ∧ Grp C CC H g n fs Ls lv ow ∧
  ∀ (l : Addr) (ps : List Addr) (H' : Hp), Same H H' → H l = none → H' l = some (.lst (ps.map V.ref)) → ps.Nodup → (∀ p ∈ ps, H p = none ∧ p ≠ l) → Paired (fun p (i : Nat) => ∃ v, lv[i]? = some v ∧ FlTold H' v.gs p) ps (plsL fs.length lv) → Q (.ref l) H'
theorem ok_gf {f fr C CC : Addr} {fd fdr : FuncData} (F : Fun K "floors" "Group.floors" sGf f fd) (B : Bl mg) (cl : Cls K C) (na3 : NoAttr K C "_chain") (na4 : NoAttr K C "_places") (ccl : Cls K CC) (cna2 : NoAttr K CC "goals") (R : Df K mg "_rising" sRs ["floor"] fr fdr) (GR : FnOk P w K mg base CX0 1 fr fdr ["floor"] spRs) : FnOk P w K mg base CX0 2 f fd ["self"] (spGf C CC) := by
  refine F.ok scGf (fun vs H Q E h => ?_) (fun cdv A outer s H vs Q E hr h => ?_)
  · obtain ⟨g, n, fs, Ls, lv, ow, rfl, _⟩ := h
    rfl
  · obtain ⟨g, n, fs, Ls, lv, ow, rfl, G, q⟩ := h
    obtain ⟨dx, mk, c, pl, la, ga, wa, ma, ds, gs, ws, ms, A, _⟩ := G.at_
    obtain ⟨dc, oc⟩ := A.ch.ob
    refine ⟨_, pss_one (ps_ret (pe_lc (own := [("at", 1)]) (g := gName 1) (tt := tYes) (te := tRsg K) rfl scGf.nd (pi_list (pe_fld (pv 0) rfl)) (blkOk_by (own := [("at", 1)]) (N := nGf) (sc := defScope sGf) (by decide +kernel)) (fun _ _ _ _ _ => pg_name (i := 1) scGf.nd rfl (Or.inl rfl)) (fun _ _ _ _ _ => pts_nil) (fun _ _ _ _ _ => pe_call GR hr rfl R.g R.F.kp R.b .nil pass0 (pa_cons (pe_ix ix_list (pe_fld (pe_fld (pv 0) rfl) rfl) (pv 1) (fun _ _ => rfl)) pa_nil)))), ?_⟩
    show tRet _ _ [some (.ref g), none] H
    have eZ : sizeLine = 16777216 := rfl
    have lvn := grp_len G
    have n12 := G.n12
    have lpl : (plsL fs.length lv).length ≤ lv.length := by
      unfold plsL
      rw [List.length_map]
      refine Nat.le_trans (List.length_filter_le _ _) ?_
      rw [List.length_zip, List.length_range]
      omega
    refine ⟨_, rfl, g, C, dx, _, _, rfl, A.ob, cl, na4, rfl, pl, rfl, ⟨_, SqL.of A.pl⟩, fun D hD => lc_new (walk_list (K := K) (a := pl) (xs := (plsL fs.length lv).map fun (i : Nat) => V.int (i : Int))) (R := fun (i : Nat) p H' => ∃ v, lv[i]? = some v ∧ FlTold H' v.gs p) (I := fun _ => True) (zs := []) (xs := plsL fs.length lv) (List.length_map _).symm (by omega) hD (fun z => nomatch z) (fun z hz => nomatch hz) trivial (fun _ _ _ _ => trivial) (fun H2 b _ => SqL.of (b.same _ _ A.pl)) ?_ (fun _ _ z hz => nomatch hz) fun H2 ps b _ hy nd nn pr => q D ps H2 b.same hD hy nd nn pr⟩
    rintro i a x Hz H2 T ha b _ ⟨acc, hacc⟩ ⟨rfl, hx⟩ hT
    rw [List.getElem?_map, ha] at hx
    cases hx
    have al := plsL_lt (List.mem_of_getElem? ha)
    have hv := List.getElem?_eq_getElem al
    generalize lv[a] = v at hv
    refine ⟨rfl, ?_⟩
    obtain ⟨ad, hg⟩ : ∃ ad, gs[a]? = some ad := ⟨_, List.getElem?_eq_getElem (show a < gs.length by rw [A.ch.lg]; exact al)⟩
    obtain ⟨⟨kv, hkv, pk⟩, _, _⟩ := A.ch.fl a ad _ _ v hg (List.getElem?_eq_getElem (by rw [A.ch.lb]; exact al)) (List.getElem?_eq_getElem (by rw [A.ch.lm]; exact al)) hv
    have vm := List.mem_of_getElem? hv
    have few := goals_few (full_lv G.ok.full v vm) (G.ok.kd v vm)
    refine ⟨_, rfl, g, C, dx, _, _, rfl, b.same _ _ A.ob, cl, na3, rfl, c, CC, dc, _, _, rfl, b.same _ _ oc, ccl, cna2, rfl, _, rfl, p_ix (SqL.of (b.same _ _ A.ch.ga)) (atI_nat (by rw [List.getElem?_map, hg]; rfl)) ?_⟩
    refine ⟨ad, kv, v.gs, rfl, b.same _ _ hkv, pairImp pk fun kv z h => ⟨h.1, h.2.imp fun a h => ⟨h.1, b.same _ _ h.2⟩⟩, G.ok.kd v vm, by omega, fun p kv2 zs H3 s3 np hp pz ris => ?_⟩
    refine hT p H3 (.of s3) trivial np ⟨_, hp⟩ fun H5 b5 => ⟨v, hv, kv2, zs, b5 _ _ hp fun z => ?_, pairImp pz fun kv z h => ⟨h.1, h.2.imp fun a h => ⟨h.1, b5 _ _ h.2 fun z => ?_⟩⟩, ris⟩
    · rw [List.mem_singleton.mp z, hacc] at np
      cases np
    · have h2 := h.2
      rw [List.mem_singleton.mp z, s3 _ _ hacc] at h2
      cases h2
end
end Toy

-- part: DD1
/-! {k: v} with one pair whose key is a tuple -/
namespace L2
open PySem PySem.Spec PyProof.Rows
section
variable {X : Cx}
def tDispT (tk tv : TE) : TE := fun σ H Q => ∀ p, H p = none → tk σ (upd H p (.dT [])) fun x H1 => tv σ H1 fun y H2 => H2 p = some (.dT []) ∧ ∃ k b, x = .ref b ∧ H2 b = some (.tup (k.map kV)) ∧ Q (.ref p) (upd H2 p (.dT [(k, y)]))
theorem pe_dispT {pos : Pos} {k v : Expr} {tk tv : TE} (hu : X.A.units < cLine) (hk : PE X k tk) (hv : PE X v tv) : PE X (.Dict [some k] [v] pos) (tDispT tk tv) := by
  refine ⟨fun pins s σ H Q I q => ?_⟩
  have hn := I.hok.fresh (Nat.le_refl s.heap.objs.size)
  have I1 := I.laid (a := s.heap.objs.size) (o := .dT []) (h' := s.heap.push { cls := .type "dict", data := .dict #[] }) (t' := s.toks) (fun _ _ q => Heap.get?_push_of_some _ q) (Nat.le_refl _) (dt_empty s.heap I.big)
  have hp : PPs X pos [some k] [v] [(tk, tv)] := pps_cons hk hv pps_nil
  have hl : (pairTrees [some k] [v] X.env pos).length = 1 := pairTrees_length [some k] [v] X.env pos rfl rfl
  have h0 : pairTrees [some k] [v] X.env pos ≠ [] := fun z => by rw [z] at hl; cases hl
  rw [arm_eval_Dict, zip_pairTrees [some k] [v] X.env pos rfl rfl, dictDisplay_pairs _ h0 (by rw [hl]; decide)]
  refine wpAny_bind (wpAny_standAt (wpAny_bind (wpAny_subDictH (knd := tupleKind (mixKind X.prog X.w)) hu (by rw [hl]; decide) ?_)))
  refine thn (hp.run pins _ σ _ (fun ps H2 => match ps with | [(x, y)] => H2 s.heap.objs.size = some (.dT []) ∧ ∃ k b, x = .ref b ∧ H2 b = some (.tup (k.map kV)) ∧ Q (.ref s.heap.objs.size) (upd H2 s.heap.objs.size (.dT [(k, y)])) | _ => False) I1 ?_) fun ws s2 ⟨ps, H2, I2, rel, q2⟩ => ?_
  · exact q _ hn
  · match ps, q2, rel with
    | [], q2, _ => exact q2.elim
    | _ :: _ :: _, q2, _ => exact q2.elim
    | [(x, y)], q2, rel =>
    obtain ⟨e, k', b, rfl, eb, q2⟩ := q2
    cases rel with
    | @cons a w2 as bs h t =>
    cases t
    obtain ⟨u, r⟩ := w2
    obtain ⟨h1, rv⟩ := h
    cases (show u = Value.ref b from h1)
    obtain ⟨z, hd, xs, rl, dd⟩ := dt_of I2.hok e
    cases rl
    refine ⟨[(k', b, r)], ?_, dd, fun h' tk ⟨o, es, ep, ho, h2, h3, h4, _, h5⟩ sb => ?_⟩
    · exact ⟨rfl, rfl, key_of I2.hok eb, True.intro⟩
    · refine wpAny_pure ⟨.ref _, _, ?_, rfl, q2⟩
      refine d_write I2 (by rw [e]; exact True.intro) sb ⟨o, ho⟩ ⟨by show 1 ≤ sizeLine; decide, hd, _, ((show KT H2 [] [] from .nil).put k' eb rv).keeps fun c ys ec => ?_, o, es, ep, ho, h2, h3, h4, h5⟩
      rw [upd_ne (ne_of ec e (fun z => nomatch z))]
      exact ec
end
end L2

-- part: KL1
namespace Toy
open PySem L2
/-! ### rows that rise, each once -/
structure SrtN (l : List (List Int)) : Prop where
  nd : l.Nodup
  rise : l.Pairwise fun x y => HT.lexLt y x = false
theorem SrtN.ext : ∀ {l m : List (List Int)}, SrtN l → SrtN m → (∀ x, x ∈ l ↔ x ∈ m) → l = m
  | [], [], _, _, _ => rfl
  | [], y :: m, _, _, h => absurd ((h y).mpr List.mem_cons_self) (by simp)
  | x :: l, [], _, _, h => absurd ((h x).mp List.mem_cons_self) (by simp)
  | x :: l, y :: m, ⟨n1, r1⟩, ⟨n2, r2⟩, h => by
    have c1 := List.pairwise_cons.mp r1
    have d1 := List.pairwise_cons.mp r2
    have a1 := List.nodup_cons.mp n1
    have b1 := List.nodup_cons.mp n2
    have e : x = y := by
      rcases List.mem_cons.mp ((h x).mp List.mem_cons_self) with e | hx
      · exact e
      · rcases List.mem_cons.mp ((h y).mpr List.mem_cons_self) with e | hy
        · exact e.symm
        · exact lex_total x y (d1.1 x hx) (c1.1 y hy)
    subst e
    rw [SrtN.ext ⟨a1.2, c1.2⟩ ⟨b1.2, d1.2⟩ fun z => ⟨fun hz => (List.mem_cons.mp ((h z).mp (List.mem_cons_of_mem _ hz))).resolve_left fun e => a1.1 (e ▸ hz), fun hz => (List.mem_cons.mp ((h z).mpr (List.mem_cons_of_mem _ hz))).resolve_left fun e => b1.1 (e ▸ hz)⟩]
/-- all products, or none where there are more than so many -/
def ProdOk (n : Nat) (Ls : List (List Int)) (bd : Nat) (Ws : List (List Int)) : Prop :=
  (Ws = [] ∧ ∃ big : List (List Int), big.Nodup ∧ bd < big.length ∧ ∀ t ∈ big, Gen n Ls t) ∨ (Ws.length ≤ bd ∧ SrtN Ws ∧ ∀ t, t ∈ Ws ↔ Gen n Ls t)
theorem TupsAt.updN {H : Hp} {l : Addr} {o o' : HO} (h : H l = some o) (nt : ∀ ys, o ≠ .tup ys) : ∀ {bs : List Addr} {cs : List (List Int)}, TupsAt H bs cs → TupsAt (upd H l o') bs cs := fun T => pairImp T fun x c hx => by rw [upd_ne (fun z => by rw [z, h] at hx; exact nt _ (Option.some.inj hx))]; exact hx
theorem nodup_snoc {α : Type} {l : List α} {x : α} (h : l.Nodup) (n : x ∉ l) : (l ++ [x]).Nodup := by
  rw [List.nodup_append]
  exact ⟨h, by simp, fun a ha b hb e => n (by rw [List.mem_singleton.mp hb] at e; rw [← e]; exact ha)⟩
section
variable {P : Program} {w : World} {K : PySem.W.Frag} {mg : Str → Option Value} {base : Heap}
abbrev sLp : Stmt := s__law_products
abbrev nLp : List Str := ["many", "makers", "found", "seen", "at", "maker", "turn"]
theorem scLp : FnScope nLp ["many", "makers"] (defScope sLp) := ⟨rfl, rfl, rfl, by decide +kernel, rfl, by decide +kernel, by decide +kernel⟩
def spLp : Sp := fun vs H Q _ => ∃ (ml : Addr) (n : Nat) (ms : List Addr) (Ls : List (List Int)), vs = [.int (n : Int), .ref ml] ∧ 1 ≤ n ∧ n ≤ 12 ∧ H ml = some (.lst (ms.map V.ref)) ∧ TupsAt H ms Ls ∧ (∀ L ∈ Ls, Trn n L) ∧ Ls.length ≤ 60 ∧ (∀ B : List (List Int), B.Nodup → (∀ t ∈ B, Gen n Ls t) → B.length ≤ 400) ∧
  ∀ (l : Addr) (ws : List Addr) (Ws : List (List Int)) (H' : Hp), Same H H' → H l = none → H' l = some (.lst (ws.map V.ref)) → TupsAt H' ws Ws → SrtN Ws → (∀ t, t ∈ Ws ↔ Gen n Ls t) → Ws.length ≤ 400 → Q (.ref l) H'
def atLp (σ : St) : Nat := match σ[4]? with | some (some (V.int a)) => a.toNat | _ => 0
theorem ok_lp {f fJ fG : Addr} {fd fdJ fdG : FuncData} (F : Fun K "_law_products" "_law_products" sLp f fd) (B : Bl mg)
    (J : Df K mg "_law_joined" sJn ["one", "other"] fJ fdJ) (G : Df K mg "_law_goes" sLGoes ["turn", "letter"] fG fdG) : FnOk P w K mg base CX0 3 f fd ["many", "makers"] spLp := by
  have GJ : FnOk P w K mg base CX0 2 fJ fdJ ["one", "other"] (spJn K) := ok_jn J.F B G
  refine F.ok scLp (fun vs H Q E h => ?_) (fun cdv A outer s H vs Q E hr h => ?_)
  · obtain ⟨ml, n, ms, Ls, rfl, _⟩ := h
    rfl
  · obtain ⟨ml, n, ms, Ls, rfl, n1, n4, hml, tm, okm, l60, fin, q⟩ := h
    have hu := hu_of hr
    refine ⟨_, pss_cons (ps_set (i := 2) scLp.nd rfl (Or.inl rfl) (pe_lst (pa_cons (pe_tupRg rfl (by rfl) B.tuple (prg_2 (by rfl) B.range pe_int (pe_op op_add (pv 0) pe_int))) pa_nil)))
      (pss_cons (ps_set (i := 3) scLp.nd rfl (Or.inl rfl) (pe_dispT (Nat.lt_of_succ_lt hu) (pe_ix ix_list (pv 2) pe_int (fun _ _ => rfl)) pe_bl))
      (pss_cons (ps_set (i := 4) scLp.nd rfl (Or.inl rfl) pe_int)
      (pss_cons (ps_while PassesOwn.never (pt_cmpR op_lt (pv 4) (pe_callB call_len_seq (by rfl) B.len PySem.boot_len (pa_cons (pv 2) pa_nil)) (nomark _)) (pss_cons (ps_for PassesOwn.never rfl (pi_list (pv 1)) (pg_name (i := 5) scLp.nd rfl (Or.inl rfl)) (pss_cons (ps_set (i := 6) scLp.nd rfl (Or.inl rfl) (pe_call GJ hr rfl J.g J.F.kp J.b .nil pass0 (pa_cons (pe_ix ix_list (pv 2) (pv 4) (fun _ _ => rfl)) (pa_cons (pv 5) pa_nil))))
      (pss_one (ps_if (pt_cmp (pc_dnotin hu (pv 6) (pv 3))) (pss_cons (ps_dput hu (pv 3) (pv 6) pe_bl rfl)
      (pss_one (ps_expr (pe_bm PySem.F.plainAttrs_list PySem.F.slot_list_append PySem.F.type_list_append mt_append (pv 2) (pa_cons (pv 6) pa_nil))))) pss_nil))))
      (pss_one (ps_aug (i := 4) scLp.nd rfl (Or.inl rfl) pe_int ip_add))))
      (pss_one (ps_ret (pe_callB (cr_sortedTL hr.units) (by rfl) B.sorted (by decide +kernel) (pa_cons (pv 2) pa_nil))))))), ?_⟩
    show tSeq _ _ _ [some (.int (n : Int)), some (.ref ml), none, none, none, none, none] H
    have eZ : sizeLine = 16777216 := rfl
    have lms := TupsAt.len tm
    refine seq_gen (fun σ' H' => ∃ (fl a : Addr), σ' = [some (.int (n : Int)), some (.ref ml), some (.ref fl), none, none, none, none] ∧ Same H H' ∧ H fl = none ∧ H' fl = some (.lst [.ref a]) ∧ H' a = some (.tup ((up n).map V.int))) (fun nx hnx => ?_) ?_
    · walk_at "rd"
      refine ⟨_, rfl, _, _, rfl, rfl, 1, (n : Int) + 1, rfl, rfl, RgOk.of_le (by decide) (by omega) (by decide) (by omega), fun a ha => ?_⟩
      rw [up_rg n (by omega), Int.toNat_natCast]
      have sa := Same.new (o := .tup ((up n).map V.int)) ha
      refine ⟨by show 1 ≤ sizeLine; decide, fun fl hfl => ?_⟩
      have sf := Same.new (o := .lst [.ref a]) hfl
      exact hnx _ _ ⟨fl, a, rfl, Same.trans sa sf, Same.nn sa hfl, upd_same, sf _ _ upd_same⟩
    rintro σ' H1 ⟨fl, a, rfl, s1, nfl, hfl1, ha1⟩
    refine seq_gen (fun σ' H' => ∃ (g : Addr), σ' = [some (.int (n : Int)), some (.ref ml), some (.ref fl), some (.ref g), none, none, none] ∧ Same H H' ∧ H g = none ∧ g ≠ fl ∧ H' g = some (.dT [(tkey (up n), .bl true)]) ∧ H' fl = some (.lst [.ref a]) ∧ H' a = some (.tup ((up n).map V.int))) (fun nx hnx => ?_) ?_
    · unfold tAsg tDispT
      walk_at "rd"
      intro p hp
      have sp := Same.new (o := .dT []) hp
      have hp1 : upd H1 p (.dT []) p = some (.dT []) := upd_same
      generalize upd H1 p (.dT []) = H2 at *
      have npf : p ≠ fl := fun z => by rw [z, hfl1] at hp; cases hp
      have npa : p ≠ a := fun z => by rw [z, ha1] at hp; cases hp
      refine p_ix (SqL.of (sp _ _ hfl1)) (atI_nat (j := 0) rfl) ⟨hp1, tkey (up n), a, rfl, by rw [tkey_kV]; exact sp _ _ ha1, ?_⟩
      refine hnx _ _ ⟨p, rfl, Same.upN (Same.trans s1 sp) (Same.nn s1 hp), Same.nn s1 hp, npf, upd_same, by rw [upd_ne (Ne.symm npf)]; exact sp _ _ hfl1, by rw [upd_ne (Ne.symm npa)]; exact sp _ _ ha1⟩
    rintro σ' H2 ⟨g, rfl, s2, ng, ngf, hg2, hfl2, ha2⟩
    refine seq_gen (fun σ' H' => σ' = [some (.int (n : Int)), some (.ref ml), some (.ref fl), some (.ref g), some (.int 0), none, none] ∧ H' = H2) (fun nx hnx => hnx _ _ ⟨rfl, rfl⟩) ?_
    rintro σ' H2' ⟨rfl, rfl⟩
    have lenK : ∀ (kvs : List (List Key × V)) (fs : List (List Int)), kvs.map (·.1) = fs.map tkey → kvs.length = fs.length := fun kvs fs h => by
      have := congrArg List.length h
      rw [List.length_map, List.length_map] at this
      exact this
    let Pv : St → Hp → Prop := fun σ' H' => ∃ (k : Nat) (l5 l6 : Option V) (kvs : List (List Key × V)) (fs : List (List Int)) (bs : List Addr), σ' = [some (.int (n : Int)), some (.ref ml), some (.ref fl), some (.ref g), some (.int (k : Nat)), l5, l6] ∧ Same H H' ∧ H' g = some (.dT kvs) ∧ kvs.map (·.1) = fs.map tkey ∧ H' fl = some (.lst (bs.map V.ref)) ∧ TupsAt H' bs fs ∧ (∀ T ∈ fs, Gen n Ls T) ∧ up n ∈ fs ∧ fs.Nodup ∧ fs.length ≤ 460 ∧ (∀ i T, i < k → fs[i]? = some T → ∀ L ∈ Ls, joined T L ∈ fs)
    let Pe : St → Hp → Prop := fun σ' H' => ∃ (k : Nat) (l5 l6 : Option V) (kvs : List (List Key × V)) (fs : List (List Int)) (bs : List Addr), σ' = [some (.int (n : Int)), some (.ref ml), some (.ref fl), some (.ref g), some (.int (k : Nat)), l5, l6] ∧ Same H H' ∧ H' g = some (.dT kvs) ∧ kvs.map (·.1) = fs.map tkey ∧ H' fl = some (.lst (bs.map V.ref)) ∧ TupsAt H' bs fs ∧ (∀ T ∈ fs, Gen n Ls T) ∧ up n ∈ fs ∧ fs.Nodup ∧ fs.length ≤ 460 ∧ (∀ i T, i < k → fs[i]? = some T → ∀ L ∈ Ls, joined T L ∈ fs) ∧ fs.length ≤ k
    refine seq_gen (fun σ' H' => Pe σ' H') (fun nx hnx => ?_) ?_
    · refine while_by (Pv := Pv) (μ := fun σ _ => 401 - atLp σ) ⟨0, none, none, _, [up n], [a], rfl, s2, hg2, rfl, hfl2, .cons ha2 .nil, (fun T h => by rw [List.mem_singleton.mp h]; exact .one), List.mem_singleton.mpr rfl, by simp, (show 1 ≤ 460 by decide), fun i T hi => absurd hi (Nat.not_lt_zero i)⟩ ?_ ?_
      · rintro σ H3 ⟨k, l5, l6, kvs, fs, bs, rfl, s3, hg3, hk3, hfl3, tf3, pr3, one3, nd3, lf3, clo3⟩
        have lbf := TupsAt.len tf3
        generalize hA : tSeq _ _ = A
        walk_at "rd"
        refine ⟨fl, _, rfl, .inl (SqL.of hfl3), ?_⟩
        rw [List.length_map, lbf]
        by_cases c1 : k < fs.length
        · rw [decide_eq_true (show (k : Int) < (fs.length : Int) by omega)]
          refine iteT ?_
          have f4 := fin fs nd3 pr3
          subst hA
          obtain ⟨b0, hb0⟩ : ∃ b, bs[k]? = some b := ⟨bs[k]'(by omega), List.getElem?_eq_getElem _⟩
          obtain ⟨T0, hT0, hbT⟩ := TupsAt.get tf3 hb0
          have t0 := (pr3 T0 (List.mem_of_getElem? hT0)).trn okm
          refine ⟨_, rfl, ml, rfl, ⟨_, SqL.of (s3 _ _ hml)⟩, for_list (K := K) (a := ml) (xs := ms.map V.ref) (fun m σ H' => ∃ (l5 l6 : Option V) (kvs' : List (List Key × V)) (bs2 : List Addr) (fs2 : List (List Int)), σ = [some (.int (n : Int)), some (.ref ml), some (.ref fl), some (.ref g), some (.int (k : Nat)), l5, l6] ∧ Same H H' ∧ H' g = some (.dT kvs') ∧ kvs'.map (·.1) = (fs ++ fs2).map tkey ∧ H' fl = some (.lst ((bs ++ bs2).map V.ref)) ∧ TupsAt H' (bs ++ bs2) (fs ++ fs2) ∧ (∀ T ∈ fs ++ fs2, Gen n Ls T) ∧ (fs ++ fs2).Nodup ∧ fs2.length ≤ m ∧ (∀ L ∈ Ls.take m, joined T0 L ∈ fs ++ fs2)) ⟨l5, l6, kvs, [], [], rfl, s3, hg3, by rw [List.append_nil]; exact hk3, by rw [List.append_nil]; exact hfl3, by rw [List.append_nil, List.append_nil]; exact tf3, by rw [List.append_nil]; exact pr3, by rw [List.append_nil]; exact nd3, Nat.le_refl _, fun L h => (nomatch h)⟩ (fun j σ H' _ ⟨_, _, _, _, _, _, e, _⟩ => SqL.of (e _ _ hml)) ?_ ?_⟩
          · rintro m y σ H6 hm ⟨l5, l6, kvs', bs2, fs2, rfl, s6, hg6, hk6, hfl6, tf6, pr6, nd6, l26, ld6⟩
            rw [List.getElem?_map] at hm
            cases ez : ms[m]? with
            | none => rw [ez] at hm; cases hm
            | some mb =>
            rw [ez] at hm
            cases hm
            have hml6 : m < ms.length := (List.getElem?_eq_some_iff.mp ez).1
            obtain ⟨L, hL, hmb⟩ := TupsAt.get (TupsAt.same s6 tm) ez
            have hLm := List.mem_of_getElem? hL
            have tL := okm L hLm
            have lk6 := lenK _ _ hk6
            rw [List.length_append] at lk6
            have lb6 := TupsAt.len tf6
            rw [List.length_append, List.length_append] at lb6
            have hb6 : (bs ++ bs2)[k]? = some b0 := by rw [List.getElem?_append_left (by omega)]; exact hb0
            obtain ⟨T1, hT1, hbT6⟩ := TupsAt.get tf6 hb6
            rw [List.getElem?_append_left c1, hT0] at hT1
            cases hT1
            have tk1 : ∀ M ∈ Ls.take (m + 1), M ∈ Ls.take m ∨ M = L := fun M hM => by
              rw [List.take_add_one, hL] at hM
              exact (List.mem_append.mp hM).imp id fun h => by simpa using h
            show tSeq _ _ _ [some (.int (n : Int)), some (.ref ml), some (.ref fl), some (.ref g), some (.int (k : Nat)), some (.ref mb), l6] H6
            refine seq_gen (fun σ' H' => ∃ (ob : Addr), σ' = [some (.int (n : Int)), some (.ref ml), some (.ref fl), some (.ref g), some (.int (k : Nat)), some (.ref mb), some (.ref ob)] ∧ Same H6 H' ∧ H' ob = some (.tup ((joined T0 L).map V.int))) (fun nx2 hnx2 => ?_) ?_
            · walk_at "rd"
              refine p_ix (SqL.of hfl6) (atI_nat (by rw [List.getElem?_map, hb6]; rfl)) ?_
              exact ⟨b0, mb, n, T0, L, rfl, SqT.of hbT6, t0, by omega, SqT.of hmb, tL.len, fun ob H7 s7 hob => hnx2 _ _ ⟨ob, rfl, s7, hob⟩⟩
            rintro σ' H7 ⟨ob, rfl, s7, hob⟩
            have prS : Gen n Ls (joined T0 L) := .mul (pr3 T0 (List.mem_of_getElem? hT0)) hLm
            generalize eS : joined T0 L = S at *
            have hg7 := s7 _ _ hg6
            have hl7 := s7 _ _ hfl6
            have tl7 := TupsAt.same s7 tf6
            refine ⟨_, rfl, _, rfl, g, _, rfl, DGet.t (k := tkey S) hg7 (by rw [tkey_kV]; exact hob), _, rfl, ?_⟩
            rw [val_keys tkey_inj hk6 S]
            by_cases hS : S ∈ fs ++ fs2
            · rw [show ∀ (i : Decidable (S ∈ fs ++ fs2)), @decide (S ∈ fs ++ fs2) i = true from fun i => @decide_eq_true _ i hS]
              exact iteF ⟨_, _, kvs', bs2, fs2, rfl, Same.trans s6 s7, hg7, hk6, hl7, tl7, pr6, nd6, by omega, fun M hM => (tk1 M hM).elim (ld6 M) fun h => by rw [h, eS]; exact hS⟩
            · rw [show ∀ (i : Decidable (S ∈ fs ++ fs2)), @decide (S ∈ fs ++ fs2) i = false from fun i => @decide_eq_false _ i hS]
              refine iteT ?_
              refine ⟨_, rfl, _, rfl, g, _, rfl, DPut.t (k := tkey S) hg7 (by rw [tkey_kV]; exact hob) (by omega), ?_⟩
              have nobg : ob ≠ g := fun z => by rw [z, hg7] at hob; cases hob
              have hob8 : (L2.upd H7 g (.dT (putK kvs' (tkey S) (.bl true)))) ob = some (.tup (S.map V.int)) := by rw [upd_ne nobg]; exact hob
              have hg8 : (L2.upd H7 g (.dT (putK kvs' (tkey S) (.bl true)))) g = some (.dT (putK kvs' (tkey S) (.bl true))) := upd_same
              have hl8 : (L2.upd H7 g (.dT (putK kvs' (tkey S) (.bl true)))) fl = some (.lst ((bs ++ bs2).map V.ref)) := by rw [upd_ne (Ne.symm ngf)]; exact hl7
              have s8 : Same H (L2.upd H7 g (.dT (putK kvs' (tkey S) (.bl true)))) := Same.upN (Same.trans s6 s7) ng
              have tl8 : TupsAt (L2.upd H7 g (.dT (putK kvs' (tkey S) (.bl true)))) ((bs ++ bs2) ++ [ob]) ((fs ++ fs2) ++ [S]) := pairSnoc (TupsAt.updN hg7 (fun ys z => by cases z) tl7) hob8
              have kp := keys_put tkey_inj hk6 S (V.bl true)
              have ad : addU (fs ++ fs2) S = (fs ++ fs2) ++ [S] := by unfold addU; rw [if_neg hS]
              rw [ad] at kp
              generalize (L2.upd H7 g (.dT (putK kvs' (tkey S) (.bl true)))) = H8 at *
              refine ⟨_, rfl, .inl ⟨rfl, _, SqL.of hl8⟩, _, rfl, fl, _, _, rfl, rfl, hl8, by rw [List.length_map, List.length_append]; omega, ?_⟩
              refine ⟨_, _, _, bs2 ++ [ob], fs2 ++ [S], rfl, Same.upN s8 nfl, by rw [upd_ne ngf]; exact hg8, by rw [← List.append_assoc]; exact kp, by rw [upd_same]; simp, by rw [← List.append_assoc, ← List.append_assoc]; exact TupsAt.updN hl8 (fun ys z => by cases z) tl8, fun T hT => ?_, by rw [← List.append_assoc]; exact nodup_snoc nd6 hS, by rw [List.length_append]; show _ + 1 ≤ _; omega, fun M hM => ?_⟩
              · rw [← List.append_assoc] at hT
                rcases List.mem_append.mp hT with h | h
                · exact pr6 T h
                · rw [List.mem_singleton.mp h]
                  exact prS
              · rw [← List.append_assoc]
                refine List.mem_append.mpr ((tk1 M hM).imp (ld6 M) fun h => ?_)
                rw [h, eS]
                exact List.mem_singleton.mpr rfl
          · rintro σ H6 ⟨l5, l6, kvs', bs2, fs2, rfl, s6, hg6, hk6, hfl6, tf6, pr6, nd6, l26, ld6⟩
            rw [List.length_map] at l26 ld6
            rw [lms, List.take_length] at ld6
            refine ⟨_, rfl, (k : Int), 1, rfl, rfl, ⟨k + 1, _, _, kvs', fs ++ fs2, bs ++ bs2, rfl, s6, hg6, hk6, hfl6, tf6, pr6, List.mem_append_left _ one3, nd6, by rw [List.length_append]; omega, fun i T hi hT L hL => ?_⟩, ?_⟩
            · rw [List.getElem?_append_left (by omega)] at hT
              by_cases ek : i = k
              · rw [ek, hT0] at hT
                cases hT
                exact ld6 L hL
              · exact List.mem_append_left _ (clo3 i T (by omega) hT L hL)
            · show 401 - (((k : Int) + 1).toNat) < 401 - ((k : Int).toNat)
              omega
        · rw [decide_eq_false (show ¬ (k : Int) < (fs.length : Int) by omega)]
          exact iteF (hnx _ _ ⟨k, l5, l6, kvs, fs, bs, rfl, s3, hg3, hk3, hfl3, tf3, pr3, one3, nd3, lf3, clo3, by omega⟩)
      · intro σ H Q Q' hq h
        obtain ⟨v, hv, v2, hv2, p, ys, e1, sq, i, j, e5, e6, b1, e7, h7⟩ := h
        exact ⟨v, hv, v2, hv2, p, ys, e1, sq, i, j, e5, e6, b1, e7, hq _ _ h7⟩
    rintro σ' H3 ⟨k, l5, l6, kvs, fs, bs, rfl, s3, hg3, hk3, hfl3, tf3, pr3, one3, nd3, lf3, clo3, out⟩
    have lbf := TupsAt.len tf3
    refine ⟨_, rfl, fl, bs, fs, rfl, SqL.of hfl3, tf3, fun bs2 p pm rise hp => ?_⟩
    have mm : ∀ b ∈ bs2, H3 b = some (.tup ((ctOf H3 b).map V.int)) := fun b hb => TupsAt.mem tf3 b (pm.mem_iff.mp hb)
    have sp := Same.new (o := .lst (bs2.map V.ref)) hp
    have pm2 : (bs2.map (ctOf H3)).Perm fs := by
      have := pm.map (ctOf H3)
      rw [TupsAt.ct tf3] at this
      exact this
    refine q p bs2 (bs2.map (ctOf H3)) _ (Same.trans s3 sp) (Same.nn s3 hp) upd_same (TupsAt.same sp (TupsAt.of_mem mm)) ⟨pm2.nodup_iff.mpr nd3, List.pairwise_map.mpr rise⟩ (fun t => ⟨fun ht => pr3 t (pm2.mem_iff.mp ht), fun ht => pm2.mem_iff.mpr ?_⟩) (by rw [pm2.length_eq]; exact fin fs nd3 pr3)
    induction ht with
    | one => exact one3
    | @mul T L _ hL ih =>
      obtain ⟨i, hi, e⟩ := List.getElem_of_mem ih
      exact clo3 i T (by omega) (by rw [List.getElem?_eq_getElem hi, e]) L hL
end
end Toy

-- part: LCD
namespace Toy
open PySem L2
/-! ### a comprehension in which draws are made -/
theorem Ex.but {d : Addr} {H H' : Hp} (e : Ex d H H') : ButL [d] H H' := fun b o h n => e b o h fun z => n (List.mem_singleton.mpr z)
theorem ButL.ex {d : Addr} {H H' : Hp} (e : ButL [d] H H') : Ex d H H' := fun b o h n => e b o h fun z => n (List.mem_singleton.mp z)
theorem lc_draw {J : It} {n : Nat} {G : Hp → Prop} {Y : Nat → Hp → V → Hp → Prop} {α : Type} {K : PySem.W.Frag} (wk : Walk J n G Y) {R : α → V → Hp → Prop} {xs : List α} {kp : α → Bool} {g : TG} {tt : TT} {te : TE} {vs : List Nat} {σ : St} {H0 : Hp} {D d sc : Addr} {ns : List Int} {Qd : Hp → Prop}
    (hn : xs.length = n) (hz : xs.length < sizeLine) (D0 : DrA K sc ns H0 d) (hD : H0 D = none) (hG : ∀ H, Ex d H0 H → DrA K sc ns H d → G H)
    (hs : ∀ i a x H H' (T : VK) (F : Hp → Prop), xs[i]? = some a → Ex d H0 H → DrA K sc ns H d → D ≠ d → (∃ acc, H D = some (.lst acc)) → Y i H x H' →
      (∀ y H4, kp a = true → Ex d H H4 → DrA K sc ns H4 d → (∀ H5, ButL [D, d] H4 H5 → R a y H5) → T y H4) → (∀ H4, kp a = false → Ex d H H4 → DrA K sc ns H4 d → F H4) →
      g x (wipe σ vs) H' fun σ2 H2 => wipe σ2 vs = wipe σ vs ∧ tt σ2 H2 fun b H3 => if b = true then te σ2 H3 T else F H3)
    (hd : ∀ H' ys, Ex d H0 H' → DrA K sc ns H' d → H' D = some (.lst ys) → Paired (fun y a => R a y H') ys (xs.filter kp) → Qd H') :
    ∃ W : Nat → Nat → Hp → Prop, (∃ m, W 0 m (upd H0 D (.lst []))) ∧ ∀ i m H, W i m H →
      (J.stop i H ∧ Qd H) ∨ (J.go i H ∧ ∃ Nx : Hp → Prop, (∀ H', Nx H' → ∃ m', m' < m ∧ W (i + 1) m' H') ∧ ∀ x H', J.yld i H x H' → g x (wipe σ vs) H' fun σ2 H2 => wipe σ2 vs = wipe σ vs ∧ tt σ2 H2 fun b H3 =>
        if b = true then te σ2 H3 fun y H4 => ∃ acc, H4 D = some (.lst acc) ∧ acc.length < sizeLine ∧ Nx (upd H4 D (.lst (acc ++ [y]))) else Nx H3) := by
  have nd : D ≠ d := D0.nd hD
  obtain ⟨n0, C0⟩ := D0
  have re : ∀ H, ButL [d] H0 H → (∃ m : Int, H d = some (.lst [.ref sc, .int m]) ∧ 0 ≤ m) → DrA K sc ns H d := fun H b ⟨m, hm, m0⟩ => ⟨m, hm, C0.sqx b.ex, C0.len, m0⟩
  have ir : ∀ {H}, DrA K sc ns H d → ∃ m : Int, H d = some (.lst [.ref sc, .int m]) ∧ 0 ≤ m := fun ⟨m, h⟩ => ⟨m, h.dr, h.pos⟩
  refine lc_gen wk (R := R) (I := fun H => ∃ m : Int, H d = some (.lst [.ref sc, .int m]) ∧ 0 ≤ m) (zs := [d]) (xs := xs) (kp := kp) hn hz hD (fun z => nd (List.mem_singleton.mp z)) ⟨n0, C0.dr, C0.pos⟩ (fun H H' b ⟨m, hm, m0⟩ => ⟨m, b _ _ hm fun z => nd (List.mem_singleton.mp z).symm, m0⟩) (fun H b i => hG H b.ex (re H b i)) ?_ fun H' ys b i hy pr => hd H' ys b.ex (re H' b i) hy pr
  intro i a x H H' T F ha b iH acc y hT hF
  exact hs i a x H H' T F ha b.ex (re H b iH) nd acc y (fun y H4 k e D4 r => hT y H4 k e.but (ir D4) r) fun H4 k e D4 => hF H4 k e.but (ir D4)
/-- the items are tuples of numbers that all fulfil P -/
theorem pair_tups {α : Type} {H : Hp} {P : List Int → Prop} : ∀ {ys : List V} {l : List α}, Paired (fun y (_ : α) => ∃ (p : Addr) (L : List Int), y = V.ref p ∧ H p = some (.tup (L.map V.int)) ∧ P L) ys l → ∃ (ps : List Addr) (Ls : List (List Int)), ys = ps.map V.ref ∧ TupsAt H ps Ls ∧ (∀ L ∈ Ls, P L) ∧ Ls.length = l.length
  | _, _, .nil => ⟨[], [], rfl, .nil, fun L h => (nomatch h), rfl⟩
  | _, _, .cons ⟨p, L, e, h, hP⟩ t => by
    obtain ⟨ps, Ls, e2, t2, a2, l2⟩ := pair_tups t
    exact ⟨p :: ps, L :: Ls, by rw [e, e2]; rfl, .cons h t2, fun M hM => by
      rcases List.mem_cons.mp hM with rfl | hM
      · exact hP
      · exact a2 M hM, by rw [List.length_cons, List.length_cons, l2]⟩
theorem tups_ex {K : PySem.W.Frag} {H H' : Hp} {d sc : Addr} {ns : List Int} (D : DrA K sc ns H d) (e : Ex d H H') {bs : List Addr} {cs : List (List Int)} (t : TupsAt H bs cs) : TupsAt H' bs cs := pairImp t fun x c h => e _ _ h fun z => by
  obtain ⟨m, hm⟩ := D
  have := hm.dr
  rw [z, this] at h
  cases h
end Toy

-- part: GC6
namespace Toy
open PySem L2
/-! ### one turn of few truths is back after few times -/
theorem absI_abs (y : Int) : absI (absI y) = absI y := by
  have h : 0 ≤ absI y := by unfold absI; split <;> omega
  show (if absI y < 0 then -absI y else absI y) = absI y
  rw [if_neg (by omega)]
theorem it_abs {n : Nat} {L : List Int} (t : Trn n L) {x y : Int} (hx : Lt n x) (e : absI x = absI y) (j : Nat) : absI (itL L j x) = absI (itL L j y) := by
  have : y = x ∨ y = -x := by unfold absI at e; split at e <;> split at e <;> omega
  rcases this with rfl | rfl
  · rfl
  · rw [it_neg t hx, absI_neg]
theorem it_inj_abs {n : Nat} {L : List Int} (t : Trn n L) {x y : Int} (hx : Lt n x) (hy : Lt n y) {k : Nat} (e : absI (itL L k x) = absI (itL L k y)) : absI x = absI y := by
  have : itL L k y = itL L k x ∨ itL L k y = -(itL L k x) := by unfold absI at e; split at e <;> split at e <;> omega
  rcases this with h | h
  · rw [it_inj t hy hx h]
  · rw [← it_neg t hx] at h
    rw [it_inj t hy (x := y) (y := -x) ⟨by rw [absI_neg]; exact hx.1, by rw [absI_neg]; exact hx.2⟩ h, absI_neg]
/-- how often until the truth is met again -/
theorem half_ex {n : Nat} {L : List Int} (t : Trn n L) {k : Int} (hk : Lt n k) : ∃ p, 1 ≤ p ∧ absI (itL L p k) = absI k ∧ ∀ j, 0 < j → j < p → absI (itL L j k) ≠ absI k := by
  obtain ⟨p, p1, _, pb⟩ := it_back t hk
  have : ∀ m p, p ≤ m → 1 ≤ p → absI (itL L p k) = absI k → ∃ q, 1 ≤ q ∧ absI (itL L q k) = absI k ∧ ∀ j, 0 < j → j < q → absI (itL L j k) ≠ absI k := by
    intro m
    induction m with
    | zero =>
      intro p h h1 _
      omega
    | succ m ih =>
      intro p h h1 e
      by_cases c : ∃ j, 0 < j ∧ j < p ∧ absI (itL L j k) = absI k
      · obtain ⟨j, j0, jp, ej⟩ := c
        exact ih j (by omega) j0 ej
      · exact ⟨p, h1, e, fun j a b z => c ⟨j, a, b, z⟩⟩
  exact this p p (Nat.le_refl _) p1 (by rw [pb])
def sumL (l : List Nat) : Nat := l.foldr (· + ·) 0
def prodL (l : List Nat) : Nat := l.foldr (· * ·) 1
theorem prodL_pos : ∀ {l : List Nat}, (∀ p ∈ l, 1 ≤ p) → 1 ≤ prodL l
  | [], _ => Nat.le_refl _
  | p :: r, h => Nat.mul_pos (h p List.mem_cons_self) (prodL_pos (l := r) fun q hq => h q (List.mem_cons_of_mem _ hq))
theorem prodL_dvd : ∀ {l : List Nat} {p : Nat}, p ∈ l → p ∣ prodL l
  | x :: r, p, h => by
    rcases List.mem_cons.mp h with rfl | h
    · exact Nat.dvd_mul_right _ _
    · exact Nat.dvd_trans (prodL_dvd h) (Nat.dvd_mul_left _ _)
theorem sumL_mem : ∀ {l : List Nat} {p : Nat}, p ∈ l → p ≤ sumL l
  | x :: r, p, h => by
    show p ≤ x + sumL r
    rcases List.mem_cons.mp h with rfl | h
    · omega
    · have := sumL_mem h
      omega
theorem cube_le : ∀ p : Nat, p < 13 → p ^ 3 ≤ 3 ^ p := by decide
theorem prodL_le : ∀ {l : List Nat}, (∀ p ∈ l, p < 13) → prodL l ^ 3 ≤ 3 ^ sumL l
  | [], _ => by decide
  | p :: r, h => by
    show (p * prodL r) ^ 3 ≤ 3 ^ (p + sumL r)
    rw [Nat.mul_pow, Nat.pow_add]
    exact Nat.mul_le_mul (cube_le p (h p List.mem_cons_self)) (prodL_le fun q hq => h q (List.mem_cons_of_mem _ hq))
theorem prodL_81 {l : List Nat} (h : sumL l ≤ 12) : prodL l ≤ 81 := by
  have h1 := prodL_le (l := l) fun p hp => by have := sumL_mem hp; omega
  have h2 : 3 ^ sumL l ≤ 3 ^ 12 := Nat.pow_le_pow_right (by decide) h
  refine Nat.le_of_not_lt fun c => ?_
  have h3 : 82 ^ 3 ≤ prodL l ^ 3 := Nat.pow_le_pow_left c 3
  have h4 : (82 : Nat) ^ 3 ≤ 3 ^ 12 := Nat.le_trans h3 (Nat.le_trans h1 h2)
  exact absurd h4 (by decide)
/-- truths met, with the lengths of the ways round them -/
structure Met (n : Nat) (L : List Int) (U : List Int) (ps : List Nat) : Prop where
  nd : U.Nodup
  sub : ∀ x ∈ U, 1 ≤ x ∧ x ≤ (n : Int)
  len : U.length = sumL ps
  clo : ∀ x ∈ U, absI (gL L x) ∈ U
  back : ∀ x ∈ U, ∃ p ∈ ps, absI (itL L p x) = absI x
  pos : ∀ p ∈ ps, 1 ≤ p
theorem Met.it {n : Nat} {L U : List Int} {ps : List Nat} (t : Trn n L) (m : Met n L U ps) {x : Int} (hx : Lt n x) (h : absI x ∈ U) : ∀ j, absI (itL L j x) ∈ U
  | 0 => h
  | j + 1 => by
    have ih := m.it t hx h j
    have := m.clo _ ih
    have lj := it_lt t hx j
    have e : absI (gL L (absI (itL L j x))) = absI (gL L (itL L j x)) := by
      generalize itL L j x = y at lj
      have : absI y = y ∨ absI y = -y := by unfold absI; split <;> omega
      rcases this with h | h
      · rw [h]
      · rw [h, gL_neg L lj.1, absI_neg]
    rw [e] at this
    exact this
theorem met_ex {n : Nat} {L : List Int} (t : Trn n L) : ∀ m, m ≤ n → ∃ U ps, Met n L U ps ∧ ∀ j : Nat, 1 ≤ j → j ≤ m → (j : Int) ∈ U
  | 0, _ => ⟨[], [], ⟨List.nodup_nil, fun x h => (nomatch h), rfl, fun x h => (nomatch h), fun x h => (nomatch h), fun x h => (nomatch h)⟩, fun j a b => absurd a (by omega)⟩
  | m + 1, h => by
    obtain ⟨U, ps, M, hall⟩ := met_ex t m (by omega)
    by_cases c : ((m + 1 : Nat) : Int) ∈ U
    · exact ⟨U, ps, M, fun j a b => by
        by_cases z : j = m + 1
        · rw [z]; exact c
        · exact hall j a (by omega)⟩
    · have hk : Lt n ((m + 1 : Nat) : Int) := ⟨by unfold absI; rw [if_neg (by omega)]; omega, by unfold absI; rw [if_neg (by omega)]; omega⟩
      have ek : absI ((m + 1 : Nat) : Int) = ((m + 1 : Nat) : Int) := by unfold absI; rw [if_neg (by omega)]
      obtain ⟨p, p1, pb, pn⟩ := half_ex t hk
      generalize hkm : ((m + 1 : Nat) : Int) = k at c hk ek pb pn
      have inj : ∀ i j, i < j → j < p → absI (itL L i k) ≠ absI (itL L j k) := fun i j hij hj e => by
        have e2 : itL L j k = itL L i (itL L (j - i) k) := by rw [← it_add]; congr 1; omega
        rw [e2] at e
        exact pn (j - i) (by omega) (by omega) (it_inj_abs t hk (it_lt t hk _) e).symm
      have nin : ∀ j, absI (itL L j k) ∉ U := fun j hj => by
        obtain ⟨q, q1, _, qb⟩ := it_back t hk
        have h1 := M.it t (it_lt t hk j) hj (j * (q - 1) + 0)
        have e3 : itL L (j * (q - 1) + 0) (itL L j k) = k := by
          rw [← it_add]
          have : j * (q - 1) + 0 + j = j * q := by
            obtain ⟨r, rfl⟩ : ∃ r, q = r + 1 := ⟨q - 1, by omega⟩
            rw [Nat.add_sub_cancel, Nat.mul_succ, Nat.add_zero]
          rw [this]
          exact it_mul L qb j
        rw [e3, ek] at h1
        exact c h1
      refine ⟨U ++ (List.range p).map (fun j => absI (itL L j k)), p :: ps, ⟨?_, fun x hx => ?_, ?_, fun x hx => ?_, fun x hx => ?_, fun q hq => ?_⟩, fun j a b => ?_⟩
      · rw [List.nodup_append]
        refine ⟨M.nd, ?_, fun a ha b hb e => ?_⟩
        · rw [List.nodup_iff_pairwise_ne, List.pairwise_map]
          refine (List.pairwise_lt_range (n := p)).imp_of_mem fun {a b} ha hb hab => inj a b hab (List.mem_range.mp hb)
        · obtain ⟨j, _, rfl⟩ := List.mem_map.mp hb
          rw [e] at ha
          exact nin j ha
      · rcases List.mem_append.mp hx with hx | hx
        · exact M.sub x hx
        · obtain ⟨j, _, rfl⟩ := List.mem_map.mp hx
          exact it_lt t hk j
      · rw [List.length_append, List.length_map, List.length_range, M.len]
        show _ = p + sumL ps
        omega
      · rcases List.mem_append.mp hx with hx | hx
        · exact List.mem_append_left _ (M.clo x hx)
        · obtain ⟨j, hj, rfl⟩ := List.mem_map.mp hx
          refine List.mem_append_right _ (List.mem_map.mpr ?_)
          have lj := it_lt t hk j
          have e : absI (gL L (absI (itL L j k))) = absI (itL L (j + 1) k) := by
            show _ = absI (gL L (itL L j k))
            generalize itL L j k = y at lj
            have : absI y = y ∨ absI y = -y := by unfold absI; split <;> omega
            rcases this with h | h
            · rw [h]
            · rw [h, gL_neg L lj.1, absI_neg]
          rw [e]
          have hj := List.mem_range.mp hj
          by_cases z : j + 1 = p
          · exact ⟨0, List.mem_range.mpr (by omega), by rw [z, pb]; rfl⟩
          · exact ⟨j + 1, List.mem_range.mpr (by omega), rfl⟩
      · rcases List.mem_append.mp hx with hx | hx
        · obtain ⟨q, hq, e⟩ := M.back x hx
          exact ⟨q, List.mem_cons_of_mem _ hq, e⟩
        · obtain ⟨j, _, rfl⟩ := List.mem_map.mp hx
          refine ⟨p, List.mem_cons_self, ?_⟩
          have lj := it_lt t hk j
          have e1 : absI (itL L j k) = absI (absI (itL L j k)) := (absI_abs _).symm
          rw [← it_abs t lj e1 p, ← it_add, Nat.add_comm, it_add, ← it_abs t hk pb.symm j, ← e1]
      · rcases List.mem_cons.mp hq with rfl | hq
        · exact p1
        · exact M.pos q hq
      · by_cases z : (j : Int) = k
        · refine List.mem_append_right _ (List.mem_map.mpr ⟨0, List.mem_range.mpr (by omega), ?_⟩)
          show absI k = _
          rw [ek, z]
        · refine List.mem_append_left _ (hall j a ?_)
          omega
/-- back after at most 162 times -/
theorem back_162 {n : Nat} {L : List Int} (t : Trn n L) (h : n ≤ 12) : ∃ m, 1 ≤ m ∧ m ≤ 162 ∧ ∀ l, Lt n l → itL L m l = l := by
  obtain ⟨U, ps, M, hall⟩ := met_ex t n (Nat.le_refl _)
  have lu : U.length ≤ n := by
    have := len_leC M.nd (m := up n) fun x hx => up_mem.mpr (M.sub x hx)
    rw [up_len] at this
    exact this
  have sp : sumL ps ≤ 12 := by rw [← M.len]; omega
  have pp := prodL_pos M.pos
  have p81 := prodL_81 sp
  refine ⟨2 * prodL ps, by omega, by omega, fun l hl => ?_⟩
  obtain ⟨j, hj⟩ := Int.eq_ofNat_of_zero_le (show (0 : Int) ≤ absI l by have := hl.1; omega)
  have inU : absI l ∈ U := by
    rw [hj]
    exact hall j (by have := hl.1; omega) (by have := hl.2; omega)
  obtain ⟨p, hp, e⟩ := M.back _ inU
  have e1 : absI (itL L p l) = absI l := by
    rw [it_abs t hl (absI_abs l).symm p, e, absI_abs]
  have e2 : itL L (2 * p) l = l := by
    have : itL L p l = l ∨ itL L p l = -l := by unfold absI at e1; split at e1 <;> split at e1 <;> omega
    rw [Nat.two_mul, it_add]
    rcases this with h | h
    · rw [h, h]
    · rw [h, it_neg t hl, h, Int.neg_neg]
  obtain ⟨q, hq⟩ := prodL_dvd hp
  rw [hq, show 2 * (p * q) = q * (2 * p) by rw [Nat.mul_comm q, Nat.mul_assoc]]
  exact it_mul L e2 q
/-- one maker has few products -/
theorem gen_one {n : Nat} {L : List Int} (t : Trn n L) (h : n ≤ 12) {big : List (List Int)} (nd : big.Nodup) (hb : ∀ x ∈ big, Gen n [L] x) : big.length ≤ 162 := by
  obtain ⟨m, m1, m2, hm⟩ := back_162 t h
  have itm : itUp L n m = up n := (List.map_congr_left fun x hx => hm x (by have := up_mem.mp hx; exact ⟨by rw [absI_pos (by omega)]; omega, by rw [absI_pos (by omega)]; omega⟩)).trans (List.map_id _)
  have all : ∀ x, Gen n [L] x → ∃ i, i < m ∧ x = itUp L n i := by
    intro x g
    induction g with
    | one => exact ⟨0, by omega, (itUp_zero L n).symm⟩
    | mul _ hL ih =>
      obtain ⟨i, hi, rfl⟩ := ih
      rw [List.mem_singleton.mp hL, itUp_succ]
      by_cases z : i + 1 = m
      · exact ⟨0, by omega, by rw [z, itm, itUp_zero]⟩
      · exact ⟨i + 1, by omega, rfl⟩
  have := len_leC nd (m := (List.range m).map (itUp L n)) fun x hx => by
    obtain ⟨i, hi, rfl⟩ := all x (hb x hx)
    exact List.mem_map.mpr ⟨i, List.mem_range.mpr hi, rfl⟩
  rw [List.length_map, List.length_range] at this
  omega
end Toy

-- part: KL2
namespace Toy
open PySem L2
def dLL (cs : List (List Int)) : PyData := .list (cs.map dTup)
theorem shaped_LL (cs : List (List Int)) : SeqAt.shaped (dLL cs) = true := by
  have h := dep_cls cs
  unfold SeqAt.shaped dLL
  rw [Bool.and_eq_true]
  refine ⟨by simp [PyData.canLay0, can_cls], decide_eq_true ?_⟩
  simp only [PyData.depth]
  omega
theorem eqv_LL (a b : List (List Int)) : PyData.eqv (dLL a) (dLL b) = decide (a = b) := by
  unfold dLL
  simp only [PyData.eqv]
  exact eqvAll_cls a b
theorem dp_LL {K : PySem.W.Frag} {H : Hp} {l : Addr} {bs : List Addr} {cs : List (List Int)} (h : SqL K H l (bs.map V.ref)) (t : TupsAt H bs cs) : Dp K H (.ref l) (dLL cs) := .lst h (dpAll_cls t)
theorem pairTake {α β : Type} {R : α → β → Prop} : ∀ {a : List α} {b : List β}, Paired R a b → ∀ k, Paired R (a.take k) (b.take k)
  | _, _, _, 0 => .nil
  | _, _, .nil, k + 1 => .nil
  | _, _, .cons h t, k + 1 => .cons h (pairTake t k)
theorem cut_take (xs : List V) (k : Nat) : cutV xs none (some (k : Int)) = xs.take k := by
  unfold cutV
  have e2 : HT.sIx xs.length 0 none = 0 := by
    unfold HT.sIx
    rfl
  rw [e2, List.drop_zero, Nat.sub_zero]
  by_cases h : k ≤ xs.length
  · have e1 : HT.sIx xs.length xs.length (some (k : Int)) = k := by
      unfold HT.sIx
      simp only
      split <;> omega
    rw [e1]
  · have e1 : HT.sIx xs.length xs.length (some (k : Int)) = xs.length := by
      unfold HT.sIx
      simp only
      split <;> omega
    rw [e1, List.take_length, List.take_of_length_le (by omega)]
section
variable {P : Program} {w : World} {K : PySem.W.Frag} {mg : Str → Option Value} {base : Heap}
/-! ### _law_some -/
abbrev nLs : List Str := ["draw", "truths", "spins", "found", "k"]
def tTu (K : PySem.W.Frag) : TE := tCall (spLTu K) [] E0 (tCons (tVar 0) (tCons (tVar 1) tNil))
/-- truths, makers and all their products, drawn -/
structure SomeAt (H : Hp) (n : Nat) (sl fl : Addr) (ps ws : List Addr) (Ls Ws : List (List Int)) : Prop where
  n1 : 1 ≤ n
  n12 : n ≤ 12
  sl : H sl = some (.lst (ps.map V.ref))
  tp : TupsAt H ps Ls
  tr : ∀ L ∈ Ls, Trn n L
  l3 : Ls.length ≤ 3
  fl : H fl = some (.lst (ws.map V.ref))
  tw : TupsAt H ws Ws
  w4 : Ws.length ≤ 400
  srt : SrtN Ws
  gen : ∀ t, t ∈ Ws ↔ Gen n Ls t
theorem SomeAt.same {H H' : Hp} {n : Nat} {sl fl : Addr} {ps ws : List Addr} {Ls Ws : List (List Int)} (e : Same H H') (s : SomeAt H n sl fl ps ws Ls Ws) : SomeAt H' n sl fl ps ws Ls Ws :=
  ⟨s.n1, s.n12, e _ _ s.sl, s.tp.same e, s.tr, s.l3, e _ _ s.fl, s.tw.same e, s.w4, s.srt, s.gen⟩
def spLs (K : PySem.W.Frag) : Sp := fun vs H Q _ => ∃ (d sc : Addr) (ns : List Int), vs = [.ref d] ∧ DrA K sc ns H d ∧
  ∀ (t sl fl : Addr) (n : Nat) (ps ws : List Addr) (Ls Ws : List (List Int)) (H' : Hp), Ex d H H' → DrA K sc ns H' d → H sl = none → H fl = none → H' t = some (.tup [.int (n : Int), .ref sl, .ref fl]) → SomeAt H' n sl fl ps ws Ls Ws → Q (.ref t) H'
theorem four_at {r : Int} (h0 : 0 ≤ r) (h1 : r < 4) : ∃ z : Nat, atI [V.int 4, V.int 4, V.int 7, V.int 12] r = some (V.int (z : Int)) ∧ 1 ≤ z ∧ z ≤ 12 := by
  have : r = 0 ∨ r = 1 ∨ r = 2 ∨ r = 3 := by omega
  rcases this with rfl | rfl | rfl | rfl
  · exact ⟨4, rfl, by decide, by decide⟩
  · exact ⟨4, rfl, by decide, by decide⟩
  · exact ⟨7, rfl, by decide, by decide⟩
  · exact ⟨12, rfl, by decide, by decide⟩
end
end Toy

-- part: KN1
namespace Toy
open PySem L2
section
variable {P : Program} {w : World} {K : PySem.W.Frag} {mg : Str → Option Value} {base : Heap}
/-! ### _law_base_drawn -/
abbrev nBd : List Str := ["draw", "many", "pool", "truths", "k", "truth"]
def tPop2 (K : PySem.W.Frag) : TE := tBM K "list" rPopAt (tVar 2) (tCons (tCall (spNext K) [] E0 (tCons (tVar 0) (tCons (tCB (rLenK K) (tCons (tVar 2) tNil)) tNil))) tNil)
def tSgn2 (K : PySem.W.Frag) : TE := tOp (rIxL K) (tLst (tCons (tVar 5) (tCons (tUn (rU fun i => .int (-i)) (tVar 5)) tNil))) (tCall (spNext K) [] E0 (tCons (tVar 0) (tCons (tC (.int 2)) tNil)))
def spBd (K : PySem.W.Frag) : Sp := fun vs H Q _ => ∃ (d sc : Addr) (n : Nat) (ns : List Int), vs = [.ref d, .int (n : Int)] ∧ 1 ≤ n ∧ n ≤ 400 ∧ DrA K sc ns H d ∧
  ∀ (l : Addr) (fs : List Int) (H' : Hp), Ex d H H' → DrA K sc ns H' d → H l = none → H' l = some (.lst (fs.map V.int)) → (∀ p ∈ fs, Lt n p) → (fs.map absI).Nodup → Q (.ref l) H'
end
end Toy

-- part: KO1
namespace Toy
open PySem L2
/-! ### the letters that one letter is led to, in numbers -/
inductive Rch (Ls : List (List Int)) (s : Int) : Int → Prop
  | one : Rch Ls s s
  | go {x : Int} {L : List Int} : Rch Ls s x → L ∈ Ls → Rch Ls s (gL L x)
structure OrbOk (Ls : List (List Int)) (s : Int) (O : List Int) : Prop where
  inc : O.Pairwise (· < ·)
  mem : ∀ x, x ∈ O ↔ Rch Ls s x
theorem incUq : ∀ {a b : List Int}, a.Pairwise (· < ·) → b.Pairwise (· < ·) → (∀ x, x ∈ a ↔ x ∈ b) → a = b
  | [], [], _, _, _ => rfl
  | [], y :: b, _, _, h => absurd ((h y).mpr List.mem_cons_self) (by simp)
  | x :: a, [], _, _, h => absurd ((h x).mp List.mem_cons_self) (by simp)
  | x :: a, y :: b, ha, hb, h => by
    have a1 := List.pairwise_cons.mp ha
    have b1 := List.pairwise_cons.mp hb
    have e : x = y := by
      rcases List.mem_cons.mp ((h x).mp List.mem_cons_self) with e | hx
      · exact e
      · rcases List.mem_cons.mp ((h y).mpr List.mem_cons_self) with e | hy
        · exact e.symm
        · have := a1.1 y hy
          have := b1.1 x hx
          omega
    subst e
    rw [incUq a1.2 b1.2 fun z => ⟨fun hz => ?_, fun hz => ?_⟩]
    · rcases List.mem_cons.mp ((h z).mp (List.mem_cons_of_mem _ hz)) with e | h2
      · have := a1.1 z hz
        omega
      · exact h2
    · rcases List.mem_cons.mp ((h z).mpr (List.mem_cons_of_mem _ hz)) with e | h2
      · have := b1.1 z hz
        omega
      · exact h2
open Classical in
noncomputable def orbL (Ls : List (List Int)) (s : Int) : List Int := if h : ∃ O, OrbOk Ls s O then h.choose else []
theorem OrbOk.eq {Ls : List (List Int)} {s : Int} {O : List Int} (h : OrbOk Ls s O) : O = orbL Ls s := by
  have hx : ∃ O, OrbOk Ls s O := ⟨O, h⟩
  unfold orbL
  rw [dif_pos hx]
  exact incUq h.inc hx.choose_spec.inc fun x => (h.mem x).trans (hx.choose_spec.mem x).symm
theorem OrbOk.ok {Ls : List (List Int)} {s : Int} {O : List Int} (h : OrbOk Ls s O) : OrbOk Ls s (orbL Ls s) := by
  rw [← h.eq]
  exact h
theorem Rch.lt {n : Nat} {Ls : List (List Int)} {s x : Int} (tr : ∀ L ∈ Ls, Trn n L) (h : Lt n s) (r : Rch Ls s x) : Lt n x := by
  induction r with
  | one => exact h
  | go _ hL ih => exact (tr _ hL).lt ih
theorem few_lt {n : Nat} {fs : List Int} (nd : fs.Nodup) (h : ∀ x ∈ fs, Lt n x) : fs.length ≤ 2 * n := by
  have := len_leC nd (m := lettersU n) fun x hx => letters_mem (h x hx)
  rw [letters_len] at this
  exact this
theorem OrbOk.of {Ls : List (List Int)} {s : Int} {fs ns : List Int} (nd : fs.Nodup) (s0 : s ∈ fs) (snd : ∀ x ∈ fs, Rch Ls s x) (clo : ∀ x ∈ fs, ∀ L ∈ Ls, gL L x ∈ fs) (pm : ns.Perm fs) (rise : ns.Pairwise (· ≤ ·)) : OrbOk Ls s ns := by
  have ndn : ns.Nodup := pm.nodup_iff.mpr nd
  refine ⟨(rise.and ndn).imp fun h => by have := h.1; have := h.2; omega, fun x => ⟨fun hx => snd x (pm.mem_iff.mp hx), fun hx => pm.mem_iff.mpr ?_⟩⟩
  induction hx with
  | one => exact s0
  | go _ hL ih => exact clo _ ih _ hL
theorem pair_refs {α : Type} {R : Addr → α → Prop} : ∀ {ys : List V} {l : List α}, Paired (fun y a => ∃ b, y = V.ref b ∧ R b a) ys l → ∃ bs : List Addr, ys = bs.map V.ref ∧ Paired R bs l
  | _, _, .nil => ⟨[], rfl, .nil⟩
  | _, _, .cons ⟨b, e, h⟩ t => by
    obtain ⟨bs, e2, p⟩ := pair_refs t
    exact ⟨b :: bs, by rw [e, e2]; rfl, .cons h p⟩
section
variable {P : Program} {w : World} {K : PySem.W.Frag} {mg : Str → Option Value} {base : Heap}
/-! ### orbit_of -/
abbrev nOo : List Str := ["letter", "makers", "tables", "found", "left", "start", "table", "maker"]
def tTbs (K : PySem.W.Frag) : TE := tCall (spTab K) [] E0 (tCons (tVar 7) tNil)
def spOo : Sp := fun vs H Q _ => ∃ (p : Addr) (s : Int) (n : Nat) (bs : List Addr) (Ls : List (List Int)), vs = [.int s, .ref p] ∧ H p = some (.lst (bs.map V.ref)) ∧ TupsAt H bs Ls ∧ (∀ L ∈ Ls, Trn n L) ∧ 1 ≤ n ∧ n ≤ 12 ∧ Ls.length ≤ 60 ∧ Lt n s ∧
  ∀ (a : Addr) (H' : Hp), Same H H' → H' a = some (.tup ((orbL Ls s).map V.int)) → OrbOk Ls s (orbL Ls s) → Q (.ref a) H'
end
end Toy

-- part: GM
namespace Toy
open PySem L2
abbrev psGI : List Str := ["self", "many", "makers", "base"]
/-- Group(makers = m, many = n): the parameters in order -/
def gKmm {α : Type} (us its mv ws : List α) : List α := match us, mv, ws with
  | [s], [b], [mk, n] => [s, n, mk, b]
  | _, _, _ => []
theorem gKmm_rel {vs ds mz zs : List V} {us its mv ws : List Value} (h1 : Vals vs us) (h2 : Vals ds its) (h3 : Vals mz mv) (h4 : Vals zs ws) : Vals (gKmm vs ds mz zs) (gKmm us its mv ws) := by
  cases h1 with
  | nil => exact .nil
  | cons a t =>
    cases t with
    | cons _ _ => exact .nil
    | nil =>
      cases h3 with
      | nil => exact .nil
      | cons b t =>
        cases t with
        | cons _ _ => exact .nil
        | nil =>
          cases h4 with
          | nil => exact .nil
          | cons c t =>
            cases t with
            | nil => exact .nil
            | cons e t =>
              cases t with
              | nil => exact .cons a (.cons e (.cons c (.cons b .nil)))
              | cons _ _ => exact .nil
/-- what the top has written of Group -/
structure GrProg (P : Program) (w : World) (K : PySem.W.Frag) (mg : Str → Option Value) (base : Heap) (C CC fI : Addr) (fdI : FuncData) (eM eB : Addr) : Prop where
  gC : mg "Group" = some (.ref C)
  mak : Mk K C fI
  GI : FnOk P w K mg base CX0 18 fI fdI psGI (spGI K C CC)
  tM : SqT K (fun _ => none) eM []
  tB : SqT K (fun _ => none) eB []
  b1 : ∃ ds, Vals [.ref eM, .ref eB] ds ∧ Binds K fdI psGI ds
  b2 : ∃ ds, Vals [.ref eB] ds ∧ Binds K fdI psGI ds
/-- what is the group's own stands -/
theorem Grp.live {C CC : Addr} {H : Hp} {g : Addr} {n : Nat} {fs : List Int} {Ls : List (List Int)} {lv : List Lv} {ow : List Addr} (h : Grp C CC H g n fs Ls lv ow) : ∀ x ∈ ow, H x ≠ none := by
  obtain ⟨⟨dx, mk, c, pl, la, ga, wa, ma, ds, gs, ws, ms, A, eo⟩, _⟩ := h
  subst eo
  obtain ⟨⟨dc, c0⟩, c1, c2, c3, c4, l1, l2, l3, fl⟩ := A.ch
  have sm : ∀ {x : Addr} {o : HO}, H x = some o → H x ≠ none := fun h z => by rw [z] at h; cases h
  have fl' : ∀ i, i < lv.length → ∃ g1 b m v, gs[i]? = some g1 ∧ ws[i]? = some b ∧ ms[i]? = some m ∧ FlAt H n g1 b m v := fun i hi =>
    ⟨_, _, _, _, List.getElem?_eq_getElem (by omega), List.getElem?_eq_getElem (by omega), List.getElem?_eq_getElem (by omega), fl i _ _ _ _ (List.getElem?_eq_getElem (by omega)) (List.getElem?_eq_getElem (by omega)) (List.getElem?_eq_getElem (by omega)) (List.getElem?_eq_getElem hi)⟩
  intro x hx
  simp only [List.mem_cons, List.mem_append] at hx
  rcases hx with rfl | rfl | rfl | rfl | rfl | rfl | rfl | rfl | (hx | hx) | hx
  · exact sm A.ob
  · exact sm A.mkr
  · exact sm A.pl
  · exact sm c0
  · exact sm c1
  · exact sm c2
  · exact sm c3
  · exact sm c4
  · obtain ⟨i, hi⟩ := List.getElem?_of_mem hx
    obtain ⟨g1, b, m, v, e1, e2, e3, ⟨⟨_, k1, _⟩, _, _⟩⟩ := fl' i (by rw [← l1]; exact (List.getElem?_eq_some_iff.mp hi).1)
    rw [hi] at e1
    cases e1
    exact sm k1
  · obtain ⟨i, hi⟩ := List.getElem?_of_mem hx
    obtain ⟨g1, b, m, v, e1, e2, e3, ⟨_, ⟨_, k1, _⟩, _⟩⟩ := fl' i (by rw [← l2]; exact (List.getElem?_eq_some_iff.mp hi).1)
    rw [hi] at e2
    cases e2
    exact sm k1
  · obtain ⟨i, hi⟩ := List.getElem?_of_mem hx
    obtain ⟨g1, b, m, v, e1, e2, e3, ⟨_, _, ⟨_, k1, _⟩⟩⟩ := fl' i (by rw [← l3]; exact (List.getElem?_eq_some_iff.mp hi).1)
    rw [hi] at e3
    cases e3
    exact sm k1
section
variable {P : Program} {w : World} {K : PySem.W.Frag} {mg : Str → Option Value} {base : Heap} {C CC fI eM eB : Addr} {fdI : FuncData}
/-- a new group: what its __init__ asks, from the heap before -/
theorem mk_group {H : Hp} {Q : VK} {n : Nat} {p qa : Addr} {bs : List Addr} {Ls : List (List Int)} {fs : List Int} (hS : SqA K H p (bs.map V.ref)) (tL : TupsAt H bs Ls) (trL : ∀ L ∈ Ls, Trn n L) (n1 : 1 ≤ n) (n12 : n ≤ 12) (l60 : Ls.length ≤ 60) (hB : SqA K H qa (fs.map V.int)) (ltf : ∀ l ∈ fs, Lt n l) (ndf : (fs.map absI).Nodup)
    (q : ∀ (g : Addr) (lv : List Lv) (ow : List Addr) (H' : Hp), Same H H' → (∀ x ∈ ow, H x = none) → Grp C CC H' g n fs Ls lv ow → Q (.ref g) H') {x dx : Addr} (hx : H x = none) (hdx : H dx = none) (ne : dx ≠ x) :
    spGI K C CC [.ref x, .int (n : Int), .ref p, .ref qa] (upd (upd H dx (.own x)) x (.ins C dx [])) (fun v H2 => v = .non ∧ Q (.ref x) H2) E0 := by
  have s1 : Same H (upd H dx (.own x)) := Same.new hdx
  have hx1 : upd H dx (.own x) x = none := by rw [upd_ne (Ne.symm ne)]; exact hx
  have s2 := Same.new (o := .ins C dx []) hx1
  have s12 := Same.trans s1 s2
  refine ⟨x, p, qa, dx, n, bs, Ls, fs, rfl, upd_same, SqA.same s12 hS, tL.same s12, trL, n1, n12, l60, SqA.same s12 hB, ltf, ndf, fun lv ow H' G no b => ⟨rfl, q x lv ow H' ?_ (fun y hy => ?_) G⟩⟩
  · exact fun c o hc => b _ _ (s12 _ _ hc) fun z => by rw [List.mem_singleton.mp z, hx] at hc; cases hc
  · rcases no y hy with h | h
    · rw [h]; exact hx
    · exact Same.nn s12 h
/-- the same, for any wish -/
theorem mk_groupR {H : Hp} {R : VK} {n : Nat} {p qa : Addr} {bs : List Addr} {Ls : List (List Int)} {fs : List Int} (hS : SqA K H p (bs.map V.ref)) (tL : TupsAt H bs Ls) (trL : ∀ L ∈ Ls, Trn n L) (n1 : 1 ≤ n) (n12 : n ≤ 12) (l60 : Ls.length ≤ 60) (hB : SqA K H qa (fs.map V.int)) (ltf : ∀ l ∈ fs, Lt n l) (ndf : (fs.map absI).Nodup)
    {x dx : Addr} (hx : H x = none) (hdx : H dx = none) (ne : dx ≠ x) (q : ∀ (lv : List Lv) (ow : List Addr) (H' : Hp), Same H H' → (∀ x ∈ ow, H x = none) → Grp C CC H' x n fs Ls lv ow → R .non H') :
    spGI K C CC [.ref x, .int (n : Int), .ref p, .ref qa] (upd (upd H dx (.own x)) x (.ins C dx [])) R E0 := by
  have s1 : Same H (upd H dx (.own x)) := Same.new hdx
  have hx1 : upd H dx (.own x) x = none := by rw [upd_ne (Ne.symm ne)]; exact hx
  have s2 := Same.new (o := .ins C dx []) hx1
  have s12 := Same.trans s1 s2
  refine ⟨x, p, qa, dx, n, bs, Ls, fs, rfl, upd_same, SqA.same s12 hS, tL.same s12, trL, n1, n12, l60, SqA.same s12 hB, ltf, ndf, fun lv ow H' G no b => q lv ow H' ?_ (fun y hy => ?_) G⟩
  · exact fun c o hc => b _ _ (s12 _ _ hc) fun z => by rw [List.mem_singleton.mp z, hx] at hc; cases hc
  · rcases no y hy with h | h
    · rw [h]; exact hx
    · exact Same.nn s12 h
theorem sq0 {H : Hp} {a : Addr} (h : SqT K (fun _ => none) a []) : SqT K H a [] := Same.sqt (fun _ _ z => by cases z) h
end
end Toy

-- part: GH1
namespace Toy
open PySem L2
/-- a thing that is a turn -/
theorem turn_of {n : Nat} {xs : List V} (h : turnB xs (n : Int) = true) : ∃ L : List Int, xs = L.map V.int ∧ Trn n L := by
  unfold turnB at h
  rw [Bool.and_eq_true, Bool.and_eq_true, Bool.and_eq_true] at h
  obtain ⟨_, h1, h2, h3⟩ := h
  obtain ⟨L, rfl, hL⟩ := all_ints h2
  have l1 := of_decide_eq_true h1
  have l3 := of_decide_eq_true h3
  rw [abs_ints] at l3
  rw [List.length_map] at l1
  refine ⟨L, rfl, ?_⟩
  exact trn_of (by omega) hL l3
section
variable {P : Program} {w : World} {K : PySem.W.Frag} {mg : Str → Option Value} {base : Heap}
/-! ### Group.has -/
abbrev sGh : Stmt := m_Group_has
theorem scGh : FnScope ["self", "thing"] ["self", "thing"] (defScope sGh) := ⟨rfl, rfl, rfl, by decide +kernel, rfl, by decide +kernel, by decide +kernel⟩
def spGh (K : PySem.W.Frag) (C CC : Addr) : Sp := fun vs H Q _ => ∃ (g : Addr) (n : Nat) (fs : List Int) (Ls : List (List Int)) (lv : List Lv) (ow : List Addr) (x : V) (c : Option (List V)), vs = [.ref g, x] ∧ Grp C CC H g n fs Ls lv ow ∧ Thing K H x c ∧
  ∀ (b : Bool) (H' : Hp), Same H H' → (b = true ↔ ∃ L, c = some (L.map V.int) ∧ Gen n Ls L) → Q (.bl b) H'
theorem ok_gh {f fT fH C CC : Addr} {fd fdT fdH : FuncData} (F : Fun K "has" "Group.has" sGh f fd) (cl : Cls K C) (na1 : NoAttr K C "_many") (na3 : NoAttr K C "_chain") (ccl : Cls K CC) (T : Df K mg "is_turn" sTurn ["thing", "many"] fT fdT) (GT : FnOk P w K mg base CX0 3 fT fdT ["thing", "many"] (spTurn K))
    (mHd : Meth K CC "holds" fH) (bHd : Binds K fdH ["self", "turn", "at"] []) (GHd : FnOk P w K mg base CX0 2 fH fdH ["self", "turn", "at"] (spHd K CC)) : FnOk P w K mg base CX0 4 f fd ["self", "thing"] (spGh K C CC) := by
  refine F.ok scGh (fun vs H Q E h => ?_) (fun cdv A outer s H vs Q E hr h => ?_)
  · obtain ⟨g, n, fs, Ls, lv, ow, x, c, rfl, _⟩ := h
    rfl
  · obtain ⟨g, n, fs, Ls, lv, ow, x, c, rfl, G, th, q⟩ := h
    obtain ⟨dx, mk, ch, pl, la, ga, wa, ma, ds, gs, ws, ms, A, _⟩ := G.at_
    obtain ⟨dc, oc⟩ := A.ch.ob
    have n1 := G.n1
    have n12 := G.n12
    have ln := grp_len G
    refine ⟨_, pss_one (ps_ret (pe_and (pe_call GT hr rfl T.g T.F.kp T.b .nil pass0 (pa_cons (pv 1) (pa_cons (pe_fld (pv 0) rfl) pa_nil))) (pe_one (pe_meth (pe_fld (pv 0) rfl) ccl mHd GHd (hr.mono (by decide)) bHd .nil pass0 (pa_cons (pv 1) (pa_cons pe_int pa_nil)))))), ?_⟩
    show tRet _ _ [some (.ref g), some x] H
    refine ⟨_, rfl, _, rfl, g, C, dx, _, _, rfl, A.ob, cl, na1, rfl, x, (n : Int), c, rfl, th, fun H1 s1 => ⟨_, rfl, ?_⟩⟩
    have full : ∀ L, Gen n Ls L → Trn n L := fun L hL => hL.trn G.tr
    by_cases cc : thingB c (n : Int) = true
    · rw [cc]
      refine iteT ?_
      cases c with
      | none => cases cc
      | some xs =>
        obtain ⟨a, rfl, hs, _, _⟩ := th
        obtain ⟨L, rfl, tr⟩ := turn_of cc
        refine ⟨_, rfl, g, C, dx, _, _, rfl, s1 _ _ A.ob, cl, na3, rfl, ch, dc, _, rfl, s1 _ _ oc, rfl, _, rfl, ch, la, ga, wa, ma, gs, ws, ms, lv, n, a, L, 0, rfl, A.ch.same s1, G.ok.full, Same.sqt s1 hs, tr, by omega, Nat.zero_le _, by omega, fun b H2 hb s2 => q b H2 (Same.trans s1 s2) (hb.trans ?_)⟩
        have h1 := (G.ok.holds (restL_all G.lf G.nf) tr).trans (gen_makL G.tr L)
        constructor
        · exact fun h => ⟨L, rfl, h1.mp h⟩
        · rintro ⟨L', e, h⟩
          have : L' = L := by
            have e2 := Option.some.inj e
            exact ((List.map_inj_right (fun x y h => V.int.inj h)).mp e2).symm
          rw [this] at h
          exact h1.mpr h
    · have cf : thingB c (n : Int) = false := by
        cases h : thingB c (n : Int) with
        | true => exact absurd h cc
        | false => rfl
      rw [cf]
      refine iteF (q false H1 s1 ⟨(fun z => nomatch z), ?_⟩)
      rintro ⟨L, rfl, hL⟩
      have tr := full L hL
      have := turnB_of tr n1 (by omega)
      rw [tr.len] at this
      exact absurd this cc
end
end Toy

-- part: GQ1
namespace Toy
open PySem L2
theorem sub_all {α : Type} [DecidableEq α] {A B : List α} (nA : A.Nodup) (sub : ∀ x ∈ A, x ∈ B) (l : B.length ≤ A.length) {t : α} (ht : t ∈ B) : t ∈ A := by
  by_cases c : t ∈ A
  · exact c
  · have : (t :: A).length ≤ (B).length := len_leC (List.nodup_cons.mpr ⟨c, nA⟩) fun x hx => (List.mem_cons.mp hx).elim (fun h => by rw [h]; exact ht) (sub x)
    rw [List.length_cons] at this
    omega
/-- two groups of as many turns, one in the other, are the same -/
theorem Grp.all {C CC : Addr} {H : Hp} {g : Addr} {n : Nat} {fs : List Int} {Ls : List (List Int)} {lv : List Lv} {ow : List Addr} (G : Grp C CC H g n fs Ls lv ow) : ∃ A : List (List Int), A.Nodup ∧ (∀ t, t ∈ A ↔ Gen n Ls t) ∧ A.length = sizeV lv := by
  obtain ⟨A, nd, hA, l⟩ := count_all G.ok.full G.ok.kd (G.ok.enough (restL_all G.lf G.nf)) (fun p hp => nomatch hp) (fun _ _ p hp => nomatch hp)
  exact ⟨A, nd, fun t => (hA t).trans ((G.ok.gen t).trans (gen_makL G.tr t)), l⟩
theorem grp_same {C CC C' CC' : Addr} {H H' : Hp} {g g' : Addr} {n : Nat} {fs fs' : List Int} {Ls Ms : List (List Int)} {lv lw : List Lv} {ow ow' : List Addr} (G : Grp C CC H g n fs Ls lv ow) (G' : Grp C' CC' H' g' n fs' Ms lw ow') :
    (sizeV lv = sizeV lw ∧ ∀ m ∈ makL n Ls, Gen n Ms m) ↔ ∀ t, Gen n Ls t ↔ Gen n Ms t := by
  obtain ⟨A, nA, hA, lA⟩ := G.all
  obtain ⟨B, nB, hB, lB⟩ := G'.all
  constructor
  · rintro ⟨e, h⟩
    have sub : ∀ t, Gen n Ls t → Gen n Ms t := fun t g => Gen.into G'.tr (fun m hm => h m hm) ((gen_makL G.tr t).mpr g)
    refine fun t => ⟨sub t, fun g => ?_⟩
    have h1 := sub_all nA (fun x hx => (hB x).mpr (sub x ((hA x).mp hx))) (by omega) ((hB t).mpr g)
    exact (hA t).mp h1
  · intro h
    refine ⟨?_, fun m hm => (h m).mp (Gen.of G.tr (makL_mem.mp hm).1)⟩
    have h1 := len_leC nA (m := B) fun t ht => (hB t).mpr ((h t).mp ((hA t).mp ht))
    have h2 := len_leC nB (m := A) fun t ht => (hA t).mpr ((h t).mpr ((hB t).mp ht))
    omega
end Toy

-- part: GQ2
namespace Toy
open PySem L2
theorem pair_dec {α : Type} {p : α → Prop} : ∀ {ys : List V} {l : List α}, Paired (fun y a => ∃ b : Bool, y = V.bl b ∧ (b = true ↔ p a)) ys l → ∃ bs : List Bool, ys = bs.map V.bl ∧ (bs.all id = true ↔ ∀ a ∈ l, p a)
  | _, _, .nil => ⟨[], rfl, ⟨fun _ a h => (nomatch h), fun _ => rfl⟩⟩
  | _, _, .cons ⟨b, e, h⟩ t => by
    obtain ⟨bs, e2, h2⟩ := pair_dec t
    refine ⟨b :: bs, by rw [e, e2]; rfl, ?_⟩
    rw [List.all_cons, Bool.and_eq_true, List.forall_mem_cons, h2]
    exact and_congr_left fun _ => h
section
variable {P : Program} {w : World} {K : PySem.W.Frag} {mg : Str → Option Value} {base : Heap}
/-! ### Group.__eq__ -/
abbrev sGe : Stmt := m_Group___eq__
abbrev nGe : List Str := ["self", "other", "turn"]
theorem scGe : FnScope nGe ["self", "other"] (defScope sGe) := ⟨rfl, rfl, rfl, by decide +kernel, rfl, by decide +kernel, by decide +kernel⟩
def spGe (C CC : Addr) : Sp := fun vs H Q _ => ∃ (g h : Addr) (n : Nat) (fs fs' : List Int) (Ls Ms : List (List Int)) (lv lw : List Lv) (ow ov : List Addr), vs = [.ref g, .ref h] ∧ Grp C CC H g n fs Ls lv ow ∧ Grp C CC H h n fs' Ms lw ov ∧
  ∀ (b : Bool) (H' : Hp), Same H H' → (b = true ↔ ∀ t, Gen n Ls t ↔ Gen n Ms t) → Q (.bl b) H'
theorem ok_ge {f fS fH C CC : Addr} {fd fdS fdH : FuncData} (F : Fun K "__eq__" "Group.__eq__" sGe f fd) (B : Bl mg) (ic : C8.InsC K C) (gC : mg "Group" = some (.ref C)) (na1 : NoAttr K C "_many") (na2 : NoAttr K C "_makers")
    (mS : Meth K C "size" fS) (bS : Binds K fdS ["self"] []) (GS : FnOk P w K mg base CX0 2 fS fdS ["self"] (spGs C CC)) (mH : Meth K C "has" fH) (bH : Binds K fdH ["self", "thing"] []) (GH : FnOk P w K mg base CX0 4 fH fdH ["self", "thing"] (spGh K C CC)) :
    FnOk P w K mg base CX0 5 f fd ["self", "other"] (spGe C CC) := by
  have cl := ic.cl
  refine F.ok scGe (fun vs H Q E h => ?_) (fun cdv A outer s H vs Q E hr h => ?_)
  · obtain ⟨g, h, n, fs, fs', Ls, Ms, lv, lw, ow, ov, rfl, _⟩ := h
    rfl
  · obtain ⟨g, h, n, fs, fs', Ls, Ms, lv, lw, ow, ov, rfl, G, G', q⟩ := h
    obtain ⟨dx, mk, c, pl, la, ga, wa, ma, ds, gs, ws, ms, A0, _⟩ := G.at_
    obtain ⟨dx', mk', c', pl', la', ga', wa', ma', ds', gs', ws', ms', A1, _⟩ := G'.at_
    refine ⟨_, pss_one (ps_ret (pe_and (pe_callB call_isi (by rfl) B.isinstance (by decide +kernel) (pa_cons (pv 1) (pa_cons (pe_glob rfl gC (v := .ref C) rfl) pa_nil)))
      (pe_and (pe_cmpR op_eq (pe_fld (pv 0) rfl) (pe_fld (pv 1) rfl) (nomark _))
      (pe_and (pe_cmpR op_eq (pe_meth0 (pv 0) cl mS GS (hr.mono (by decide)) bS .nil pass0) (pe_meth0 (pv 1) cl mS GS (hr.mono (by decide)) bS .nil pass0) (nomark _))
      (pe_one (pe_callB (cr_all rfl) (by rfl) B.all (by decide +kernel) (pa_cons (pe_lc (own := [("turn", 2)]) (g := gName 2) (tt := tYes) rfl scGe.nd (pi_list (pe_fld (pv 0) rfl)) (blkOk_by (own := [("turn", 2)]) (N := nGe) (sc := defScope sGe) (by decide +kernel)) (fun _ _ _ _ _ => pg_name (i := 2) scGe.nd rfl (Or.inl rfl)) (fun _ _ _ _ _ => pts_nil) (fun _ _ _ _ _ => pe_meth (pv 1) cl mH GH hr bH .nil pass0 (pa_cons (pv 2) pa_nil))) pa_nil))))))), ?_⟩
    show tRet _ _ [some (.ref g), some (.ref h), none] H
    have eZ : sizeLine = 16777216 := rfl
    have lM : (makL n Ls).length ≤ 60 := Nat.le_trans makL_len G.l60
    have ld := TupsAt.len A0.tm
    refine ⟨_, rfl, .ref h, .ref C, .ref C, .ref C, true, rfl, .own C, .base (.ins A1.ob ic.cl ic.ha ic.hn ic.htk ic.hm), ic.me, true, rfl, iteT ?_⟩
    refine ⟨_, rfl, g, C, dx, _, _, rfl, A0.ob, cl, na1, rfl, _, rfl, h, C, dx', _, _, rfl, A1.ob, cl, na1, rfl, rfl, true, by rw [decide_eq_true rfl], iteT ?_⟩
    refine ⟨_, rfl, g, dx, _, rfl, A0.ob, rfl, g, n, fs, Ls, lv, ow, rfl, G, _, rfl, h, dx', _, rfl, A1.ob, rfl, h, n, fs', Ms, lw, ov, rfl, G', rfl, ?_⟩
    by_cases e : sizeV lv = sizeV lw
    · refine ⟨true, by rw [e, decide_eq_true rfl], iteT ?_⟩
      refine ⟨_, rfl, g, C, dx, _, _, rfl, A0.ob, cl, na2, rfl, mk, rfl, ⟨_, SqL.of A0.mkr⟩, fun D hD => lc_gen (walk_list (K := K) (a := mk) (xs := ds.map V.ref)) (R := fun (m : List Int) y _ => ∃ b : Bool, y = V.bl b ∧ (b = true ↔ Gen n Ms m)) (I := fun _ => True) (zs := []) (xs := makL n Ls) (kp := fun _ => true) (by rw [List.length_map, ld]) (by omega) hD (fun z => nomatch z) trivial (fun _ _ _ _ => trivial) (fun H2 b _ => SqL.of (b.same _ _ A0.mkr)) ?_ fun H2 ys b _ hy pr => ?_⟩
      · rintro i a x Hz H2 T F' ha b _ _ ⟨rfl, hx⟩ hT _
        rw [List.getElem?_map] at hx
        obtain ⟨d, hd, rfl⟩ := Option.map_eq_some_iff.mp hx
        obtain ⟨L, hL, hdL⟩ := TupsAt.get (TupsAt.same b.same A0.tm) hd
        rw [ha] at hL
        cases hL
        have ta := G.tr a (makL_mem.mp (List.mem_of_getElem? ha)).1
        have n12 := G.n12
        refine ⟨rfl, yesT ⟨_, rfl, h, dx', _, rfl, b.same _ _ A1.ob, rfl, _, rfl, h, n, fs', Ms, lw, ov, .ref d, some (a.map V.int), rfl, G'.same b.same, ⟨d, rfl, SqT.of hdL, by rw [List.length_map, ta.len]; omega, fun y hy => ?_⟩, fun bb H3 s3 hb => hT _ _ rfl (.of s3) trivial fun _ _ => ⟨bb, rfl, hb.trans ⟨?_, fun g => ⟨a, rfl, g⟩⟩⟩⟩⟩
        · obtain ⟨i, _, rfl⟩ := List.mem_map.mp hy
          exact ⟨_, .int i⟩
        · rintro ⟨L, e, g⟩
          rw [(List.map_inj_right (fun x y h => V.int.inj h)).mp (Option.some.inj e)]
          exact g
      · rw [List.filter_eq_self.mpr fun _ _ => rfl] at pr
        obtain ⟨bs, e2, hb⟩ := pair_dec pr
        subst e2
        refine ⟨D, bs, rfl, SqL.of hy, q _ H2 b.same (hb.trans ?_)⟩
        exact ⟨fun h => (grp_same G G').mp ⟨e, h⟩, fun h => ((grp_same G G').mpr h).2⟩
    · refine ⟨false, by rw [decide_eq_false (show ¬ V.int (sizeV lv : Int) = V.int (sizeV lw : Int) from fun z => e (Int.ofNat.inj (V.int.inj z)))], iteF (q false H (Same.refl H) ⟨(fun z => nomatch z), fun h => absurd ((grp_same G G').mpr h).1 e⟩)⟩
end
end Toy

-- part: OQ1
namespace L2
open PySem PySem.Spec PyProof.Rows
/-- what stands on the right of an own ==: a built-in thing, or an instance of the class itself -/
inductive RightOf (K : PySem.W.Frag) (H : Hp) (C : Addr) : V → Prop where
  | bi {y : V} {T : String} (t : TyB K H y T) (n : PySem.W.notFirst K C (.type T) = true) : RightOf K H C y
  | ins {b dy : Addr} {gs : List (Str × V)} (h : H b = some (.ins C dy gs)) : RightOf K H C (.ref b)
def rEqIns (K : PySem.W.Frag) (C : Addr) (sp : Sp) : R2 := fun x y H Q => ∃ a dx fs, x = .ref a ∧ H a = some (.ins C dx fs) ∧ RightOf K H C y ∧ sp [x, y] H (fun v H' => ∃ b, v = .bl b ∧ Q v H') E0
section
variable {X : Cx}
theorem op_eqIns {n : Nat} {C f : Addr} {fd : FuncData} {ps : List Str} {sp : Sp} (F : FnOk X.prog X.w X.K X.mg X.base CX0 n f fd ps sp) (hr : Room n X.A)
    (hs : PySem.W.findIn X.K (.ref C) "__eq__" = some (some (.ref f))) (hf : PySem.W.isFn X.K (.ref f) = true) (hb : Binds X.K fd ps []) : OpR X (compareOp .Eq) (rEqIns X.K C sp) := by
  intro pins s σ H x y v u Q I rx ry h
  obtain ⟨a, dx, fs, rfl, ha, hR, hsp⟩ := h
  cases rx
  obtain ⟨mA, J, _⟩ := ins_get I.hok ha
  obtain ⟨od, J, _⟩ := J.look
  obtain ⟨m, hF⟩ := I.fr
  show wpAny (model X.prog X.w) X.A (richCompare .Eq (.ref a) u) (EP X pins σ Q) X.xe s
  have go : ∀ tb, PySem.W.Looks (model X.prog X.w) s.heap (typeOf u) tb → PySem.W.notFirst X.K C tb = true → wpAny (model X.prog X.w) X.A (richCompare .Eq (.ref a) u) (EP X pins σ Q) X.xe s := by
    intro tb hT hn
    refine PySem.W.cmp_K (op := .Eq) (tb := tb) hr.units0 hF I.ok.mod.kin J hT hn hs hf ?_
    have hl := F.len _ _ _ _ hsp
    have r2 : Vals [V.ref a, y] [Value.ref a, u] := .cons rfl (.cons ry .nil)
    refine wpAny_call (codeAny_mono (F.run X.A X.stack s H ⟨[.ref a, u], []⟩ [.ref a, u] [.ref a, y] _ E0 hr I.env0 (by
      have := hb s [.ref a, u] I.kIn (by simpa using hl)
      simpa using this) r2 hsp) fun r s' hq => ?_)
    cases r with
    | error e => exact hq.elim
    | ok fl =>
      cases fl with
      | ret w =>
        obtain ⟨z, H', I', rz, ⟨b, ez, q⟩⟩ := I.after hq
        subst ez
        cases rz
        exact ⟨.bl b, H', I', rfl, q⟩
      | next => exact False.elim hq
      | brk => exact False.elim hq
      | cont => exact False.elim hq
  cases hR with
  | @bi y T t n =>
    refine go _ ?_ n
    have ht := TyB.is I ry t
    have rf : ∀ b, u = Value.ref b → PySem.W.Looks (model X.prog X.w) s.heap (typeOf u) (.type T) := fun b e => by
      subst e
      obtain ⟨o, ho, hc⟩ := ht
      rw [← hc]
      exact (PySem.W.Looks.ld ho).andThen .now
    cases t with
    | non => cases ry; exact PySem.W.Looks.now
    | bl b => cases ry; exact PySem.W.Looks.now
    | int i => obtain ⟨tk, rfl⟩ := ry; exact PySem.W.Looks.now
    | str i => obtain ⟨tk, rfl⟩ := ry; exact PySem.W.Looks.now
    | byt i => obtain ⟨tk, rfl⟩ := ry; exact PySem.W.Looks.now
    | lst h => exact rf _ ry
    | tup h => exact rf _ ry
    | dK h => exact rf _ ry
  | @ins b dy gs h =>
    cases ry
    obtain ⟨mB, J', _⟩ := ins_get I.hok h
    obtain ⟨od', J', _⟩ := J'.look
    exact go _ J'.type (by simp [PySem.W.notFirst])
end
end L2

-- part: NI1
/-! x != y of two instances of a class with an own == and no own != -/
namespace L2
open PySem PySem.Spec PyProof.Rows
theorem ne_slot : Slot "object" "__ne__" "object.__ne__" :=
  Slot.of (owner := "object") (n := "__ne__") (by rw [typeLookup_type, builtinLookup_eq_fast]; kernel_rfl) (by decide +kernel) (by decide +kernel) (by decide +kernel) (.inl (by decide +kernel)) (by rw [isSubtype_type]; kernel_rfl)
def rNeIns (K : PySem.W.Frag) (C : Addr) (sp : Sp) : R2 := fun x y H Q => ∃ a b dx dy fs gs, x = .ref a ∧ y = .ref b ∧ H a = some (.ins C dx fs) ∧ H b = some (.ins C dy gs) ∧ sp [x, y] H (fun v H' => ∃ k, v = .bl k ∧ Q (.bl (!k)) H') E0
section
variable {X : Cx}
theorem op_neIns {n : Nat} {C f : Addr} {fd : FuncData} {ps : List Str} {sp : Sp} (F : FnOk X.prog X.w X.K X.mg X.base CX0 n f fd ps sp) (hr : Room (n + 1) X.A)
    (hs : PySem.W.findIn X.K (.ref C) "__eq__" = some (some (.ref f))) (hf : PySem.W.isFn X.K (.ref f) = true) (hb : Binds X.K fd ps [])
    (hn : PySem.W.findIn X.K (.ref C) "__ne__" = some (some (.builtin "object.__ne__"))) (ho : PySem.W.subIn X.K (.ref C) (.type "object") = some true) : OpR X (compareOp .NotEq) (rNeIns X.K C sp) := by
  intro pins s σ H x y v u Q I rx ry h
  obtain ⟨a, b, dx, dy, fs, gs, rfl, rfl, ha, hb', hsp⟩ := h
  cases rx
  cases ry
  obtain ⟨mA, J, _⟩ := ins_get I.hok ha
  obtain ⟨mB, J', _⟩ := ins_get I.hok hb'
  obtain ⟨od, J, _⟩ := J.look
  obtain ⟨od', J', _⟩ := J'.look
  show wpAny (model X.prog X.w) X.A (richCompare .NotEq (.ref a) (.ref b)) (EP X pins σ Q) X.xe s
  unfold richCompare
  simp only [oneThing_ref]
  refine wpAny_holding (wpAny_bind (wpAny_cRoomFor hr.units0 ?_))
  rw [cmpInfo_NotEq]
  dsimp only
  refine wpAny_bind (J.type.here (wpAny_bind (J'.type.here ?_)))
  rw [show (Value.ref C != Value.ref C) = false from by simp]
  simp only [Bool.false_eq_true, if_false]
  refine wpAny_bind (wpAny_pure ?_)
  simp only [Bool.false_eq_true, if_false]
  have hl := F.len _ _ _ _ hsp
  have r2 : Vals [V.ref a, V.ref b] [Value.ref a, Value.ref b] := .cons rfl (.cons rfl .nil)
  have e0 : Env0 X.prog X.w X.K X.mg X.base X.A.in1 X.stack s H := by
    have e := I.env0
    exact ⟨e.frames, e.mod, e.bs, e.bsz, e.funs, e.frf, e.hok, e.bare⟩
  have callEq : wpAny (model X.prog X.w) X.A.in1 (call (.ref f) [.ref a, .ref b]) (fun v s' => ∃ k, v = .bool k ∧ EP X pins σ Q (.bool (!k)) s') X.xe s := by
    refine wpAny_call (codeAny_mono (F.run X.A.in1 X.stack s H ⟨[.ref a, .ref b], []⟩ [.ref a, .ref b] [.ref a, .ref b] _ E0 hr.in1 e0 (by
      have := hb s [.ref a, .ref b] I.kIn (by simpa using hl)
      simpa using this) r2 hsp) fun r s' hq => ?_)
    cases r with
    | error e => exact hq.elim
    | ok fl =>
      cases fl with
      | ret w =>
        obtain ⟨z, H', I', rz, ⟨k, ez, q⟩⟩ := I.after hq
        subst ez
        cases rz
        exact ⟨k, rfl, .bl (!k), H', I', rfl, q⟩
      | next => exact False.elim hq
      | brk => exact False.elim hq
      | cont => exact False.elim hq
  have body : wpAny (model X.prog X.w) X.A.in1 (Builtin.«object.__ne__» ⟨[.ref a, .ref b], []⟩) (fun fin s' => ∃ k, fin = .done (.ret (.bool (!k))) ∧ EP X pins σ Q (.bool (!k)) s') X.xe s := by
    unfold Builtin.«object.__ne__»
    repeat (first
      | with_reducible refine wpAny_cRoomFor hr.in1.units0 ?_
      | (refine wpAny_bind (m := callSpecialIfBound? (.ref a) (Str.ofString "__eq__") [.ref b])
          (PySem.W.ifBound_K I.kIn J hs hf (wpAny_mono callEq (fun r s' hr' => by
            obtain ⟨k, rfl, hq⟩ := hr'
            repeat (first | exact ⟨k, rfl, hq⟩ | exact wpAny_pure ⟨k, rfl, hq⟩ | exact wpAny_truthy_bool ⟨k, rfl, hq⟩ | (refine wpAny_bind (m := truthy (.bool _)) (wpAny_truthy_bool ?_)) | wp_step)) fun _ _ e => e)))
      | wp_step)
  have callNe : wpAny (model X.prog X.w) X.A (call (.builtin "object.__ne__") [.ref a, .ref b]) (fun v s' => ∃ k, v = .bool (!k) ∧ EP X pins σ Q (.bool (!k)) s') X.xe s := by
    refine wpAny_call (codeAny_call_builtin ne_slot.plain PySem.F.cmpEntry_ne (PySem.W.check_slot PySem.F.cmpKind_ne PySem.F.cmpSplit_ne (J.type.andThen (PySem.W.looks_subIn I.kIn ho)) (PySem.F.cmpArgs_ne _ _) (wpAny_mono body (fun fin s' hq => ?_) fun _ _ e => e)))
    obtain ⟨k, rfl, q⟩ := hq
    first | exact ⟨k, rfl, q⟩ | exact wpAny_pure ⟨k, rfl, q⟩
  refine wpAny_bind ?_
  unfold tryCompare
  have bnd : wpAny (model X.prog X.w) X.A (callSpecialIfBound? (.ref a) "__ne__" [.ref b]) (fun r s' => ∃ k, r = some (.bool (!k)) ∧ EP X pins σ Q (.bool (!k)) s') X.xe s := by
    simp only [callSpecialIfBound?, bindSpecialIfBound?]
    refine wpAny_holding (wpAny_bind (wpAny_bind (wpAny_bind (J.type.here ((PySem.W.looks_findIn I.kIn hn).here ?_)))))
    simp only [ne_slot.bind]
    refine wpAny_bind (wpAny_askSetting (wpAny_ite ?_))
    have fin : wpAny (model X.prog X.w) X.A (call (.builtin "object.__ne__") ([.ref a] ++ [.ref b]) >>= fun v => pure (some v)) (fun r s' => ∃ k, r = some (.bool (!k)) ∧ EP X pins σ Q (.bool (!k)) s') X.xe s :=
      wpAny_bind (wpAny_mono callNe (fun v s' ⟨k, e, q⟩ => wpAny_pure ⟨k, by rw [e], q⟩) fun _ _ h' => h')
    split
    · exact wpAny_bind (wpAny_pure (wpAny_pure fin))
    · exact wpAny_tryCatch (wpAny_bind (wpAny_pure (wpAny_pure fin)))
  refine wpAny_bind (wpAny_mono bnd (fun r s' hq => ?_) fun _ _ e => e)
  obtain ⟨k, rfl, q⟩ := hq
  first | exact wpAny_pure q | exact wpAny_pure (wpAny_pure q)
end
end L2

-- part: GA
namespace Toy
open PySem L2
/-! ### a method, as a caller needs it -/
section
variable {P : Program} {w : World} {K : PySem.W.Frag} {mg : Str → Option Value} {base : Heap}
structure MB (P : Program) (w : World) (K : PySem.W.Frag) (mg : Str → Option Value) (base : Heap) (C : Addr) (m : Str) (lv : Nat) (ps : List Str) (sp : Sp) (f : Addr) (fd : FuncData) : Prop where
  m : Meth K C m f
  b : Binds K fd ps []
  g : FnOk P w K mg base CX0 lv f fd ps sp
structure EQB (P : Program) (w : World) (K : PySem.W.Frag) (mg : Str → Option Value) (base : Heap) (C CC : Addr) (f : Addr) (fd : FuncData) : Prop where
  g : FnOk P w K mg base CX0 5 f fd ["self", "other"] (spGe C CC)
  hs : PySem.W.findIn K (.ref C) "__eq__" = some (some (.ref f))
  hf : PySem.W.isFn K (.ref f) = true
  b : Binds K fd ["self", "other"] []
  hn : PySem.W.findIn K (.ref C) "__ne__" = some (some (.builtin "object.__ne__"))
  ho : PySem.W.subIn K (.ref C) (.type "object") = some true
end
end Toy

-- part: KW1
namespace Toy
open PySem L2
/-! ### _ways_from -/
/-- an entry of the ways as it stands -/
def WayE (H : Hp) (e : List Key × V) (p : List Int × List Int) : Prop := e.1 = tkey p.1 ∧ ∃ b, e.2 = .ref b ∧ H b = some (.tup (p.2.map V.int))
theorem ways_keys {H : Hp} : ∀ {kvs : List (List Key × V)} {kv : List (List Int × List Int)}, Paired (WayE H) kvs kv → kvs.map (·.1) = (kv.map (·.1)).map tkey
  | _, _, .nil => rfl
  | _, _, .cons h t => by rw [List.map_cons, List.map_cons, List.map_cons, h.1, ways_keys t]
theorem ways_val {H : Hp} : ∀ {kvs : List (List Key × V)} {kv : List (List Int × List Int)}, Paired (WayE H) kvs kv → ∀ {s : List Int}, s ∈ kv.map (·.1) → ∃ b, valV kvs (tkey s) = some (.ref b) ∧ H b = some (.tup ((wayOf kv s).map V.int))
  | _, _, .nil, s, h => nomatch h
  | _, _, @Paired.cons _ _ _ e p r r2 h t, s, hs => by
    obtain ⟨h1, b, h2, h3⟩ := h
    by_cases c : p.1 = s
    · refine ⟨b, by rw [valV_pos (by rw [h1, c]), h2], ?_⟩
      unfold wayOf
      rw [List.find?_cons, decide_eq_true c]
      exact h3
    · rw [List.map_cons] at hs
      obtain ⟨b2, h4, h5⟩ := ways_val t ((List.mem_cons.mp hs).resolve_left fun z => c z.symm)
      refine ⟨b2, by rw [valV_neg (fun z => c (tkey_inj _ _ (by rw [← h1, z]))), h4], ?_⟩
      unfold wayOf
      rw [List.find?_cons, decide_eq_false c]
      exact h5
theorem WayE.same {H H' : Hp} (e : Same H H') {x : List Key × V} {p : List Int × List Int} (h : WayE H x p) : WayE H' x p := ⟨h.1, h.2.imp fun _ q => ⟨q.1, e _ _ q.2⟩⟩
theorem WayE.updN {H : Hp} {l : Addr} {o o' : HO} (h : H l = some o) (nt : ∀ ys, o ≠ .tup ys) {x : List Key × V} {p : List Int × List Int} (q : WayE H x p) : WayE (upd H l o') x p :=
  ⟨q.1, q.2.imp fun b r => ⟨r.1, by rw [upd_ne (fun z => by rw [z, h] at r; exact nt _ (Option.some.inj r.2))]; exact r.2⟩⟩
/-- a maker's table and what it leads back, as they stand -/
def LeadE (n : Nat) (H : Hp) (y : V) (L : List Int) : Prop := ∃ (p t b : Addr) (B : List Int), y = .ref p ∧ H p = some (.tup [.ref t, .ref b]) ∧ H t = some (.tup ((tabL L).map V.int)) ∧ H b = some (.tup (B.map V.int)) ∧ Bk n L B
theorem LeadE.same {n : Nat} {H H' : Hp} (e : Same H H') {y : V} {L : List Int} (h : LeadE n H y L) : LeadE n H' y L := by
  obtain ⟨p, t, b, B, h1, h2, h3, h4, h5⟩ := h
  exact ⟨p, t, b, B, h1, e _ _ h2, e _ _ h3, e _ _ h4, h5⟩
theorem pair_intsZ {α : Type} {f : α → Int} : ∀ {ys : List V} {l : List α}, Paired (fun y a => y = V.int (f a)) ys l → ys = (l.map f).map V.int
  | _, _, .nil => rfl
  | _, _, .cons h t => by rw [List.map_cons, List.map_cons, ← pair_intsZ t, ← h]
theorem pairUnsnoc {α β : Type} {R : α → β → Prop} : ∀ {a : List α} {b : List β} {x : α} {y : β}, Paired R (a ++ [x]) (b ++ [y]) → Paired R a b ∧ R x y
  | [], [], _, _, .cons h .nil => ⟨.nil, h⟩
  | [], _ :: _, _, _, .cons _ t => by have := pairLn t; simp at this
  | _ :: _, [], _, _, .cons _ t => by have := pairLn t; simp at this
  | _ :: _, _ :: _, _, _, .cons h t => ⟨.cons h (pairUnsnoc t).1, (pairUnsnoc t).2⟩
def lenDTz (H : Hp) (g : Addr) : Nat := match H g with | some (.dT kvs) => kvs.length | _ => 0
section
variable {P : Program} {w : World} {K : PySem.W.Frag} {mg : Str → Option Value} {base : Heap}
abbrev sWf : Stmt := s__ways_from
abbrev nWf : List Str := ["group", "answer", "leads", "ways", "waiting", "start", "holds", "table", "back", "goal", "maker", "letter"]
theorem scWf : FnScope nWf ["group", "answer"] (defScope sWf) := ⟨rfl, rfl, rfl, by decide +kernel, rfl, by decide +kernel, by decide +kernel⟩
def tWf_1 (K : PySem.W.Frag) : TE := tTup (tCons (tCall (spTab K) [] E0 (tCons (tVar 10) tNil)) (tCons (tCall (spLb K) [] E0 (tCons (tVar 10) tNil)) tNil))
def tWf_2 (K : PySem.W.Frag) : TE := tOp (rIxT K) (tVar 6) (tVar 11)
def spWf (K : PySem.W.Frag) (C CC : Addr) : Sp := fun vs H Q _ => ∃ (gr a : Addr) (n : Nat) (fs : List Int) (Ls : List (List Int)) (lv : List Lv) (ow : List Addr) (W : List Int), vs = [.ref gr, .ref a] ∧ Grp C CC H gr n fs Ls lv ow ∧ SqT K H a (W.map V.int) ∧ H a = some (.tup (W.map V.int)) ∧ Bits n W ∧
  ∀ (d : Addr) (kvs : List (List Key × V)) (H' : Hp), Same H H' → H d = none → H' d = some (.dT kvs) → Paired (WayE H') kvs (waysL n (makL n Ls) W) → WaysOk n (makL n Ls) W (waysL n (makL n Ls) W) → Q (.ref d) H'
theorem ok_wf {f f_is_worths f_table_of f_led_back f_still f_worth_table f_led_on f_Group_truths f_Group_makers : Addr} {fd fd_is_worths fd_table_of fd_led_back fd_still fd_worth_table fd_led_on fd_Group_truths fd_Group_makers : FuncData} {C CC : Addr} (F : Fun K "_ways_from" "_ways_from" sWf f fd) (B : Bl mg) (cl : Cls K C) (D_is_worths : Df K mg "is_worths" sIsWZ ["thing", "many"] f_is_worths fd_is_worths) (G_is_worths : FnOk P w K mg base CX0 2 f_is_worths fd_is_worths ["thing", "many"] (spIsWTZ K)) (D_table_of : Df K mg "table_of" sTab ["turn"] f_table_of fd_table_of) (G_table_of : FnOk P w K mg base CX0 1 f_table_of fd_table_of ["turn"] (spTab K)) (D_led_back : Df K mg "led_back" sLb ["turn"] f_led_back fd_led_back) (G_led_back : FnOk P w K mg base CX0 1 f_led_back fd_led_back ["turn"] (spLb K)) (D_still : Df K mg "still" sStill ["many"] f_still fd_still) (G_still : FnOk P w K mg base CX0 1 f_still fd_still ["many"] spStill) (D_worth_table : Df K mg "worth_table" sWtZ ["worths"] f_worth_table fd_worth_table) (G_worth_table : FnOk P w K mg base CX0 1 f_worth_table fd_worth_table ["worths"] (spWtZ K)) (D_led_on : Df K mg "led_on" sOn ["turn", "table"] f_led_on fd_led_on) (G_led_on : FnOk P w K mg base CX0 1 f_led_on fd_led_on ["turn", "table"] (spOn K)) (M_Group_truths : MB P w K mg base C "truths" 1 ["self"] (spGt C CC) f_Group_truths fd_Group_truths) (M_Group_makers : MB P w K mg base C "makers" 1 ["self"] (spGm C CC) f_Group_makers fd_Group_makers) : FnOk P w K mg base CX0 3 f fd ["group", "answer"] (spWf K C CC) := by
  refine F.ok scWf (fun vs H Q E h => ?_) (fun cdv A outer s H vs Q E hr h => ?_)
  · obtain ⟨gr, a, n, fs, Ls, lv, ow, W, rfl, _⟩ := h
    rfl
  · obtain ⟨gr, a, n, fs, Ls, lv, ow, W, rfl, G, ha, hat, bW, q⟩ := h
    have hu := hu_of hr
    refine ⟨_, pss_cons (ps_if (pt_not (pt_val (pe_call G_is_worths hr rfl D_is_worths.g D_is_worths.F.kp D_is_worths.b .nil pass0 (pa_cons (pv 1) (pa_cons (pe_meth0 (pv 0) cl M_Group_truths.m M_Group_truths.g (hr.mono (by decide)) M_Group_truths.b .nil pass0) pa_nil))))) (pss_one ps_never) pss_nil)
      (pss_cons (ps_setLc (i := 2) (own := [("maker", 10)]) (g := gName 10) (tt := tYes) (te := tWf_1 K) rfl scWf.nd rfl rfl (sw_true rfl rfl rfl (by decide +kernel)) (pi_list (pe_meth0 (pv 0) cl M_Group_makers.m M_Group_makers.g (hr.mono (by decide)) M_Group_makers.b .nil pass0)) (blkOk_by (own := [("maker", 10)]) (N := nWf) (sc := (defScope sWf)) (by decide +kernel)) (fun _ _ _ _ _ => pg_name (i := 10) scWf.nd rfl (Or.inl rfl)) (fun _ _ _ _ _ => pts_nil) (fun _ _ _ _ _ => pe_tup (pa_cons (pe_call G_table_of (hr.mono (by decide)) rfl D_table_of.g D_table_of.F.kp D_table_of.b .nil pass0 (pa_cons (pv 10) pa_nil)) (pa_cons (pe_call G_led_back (hr.mono (by decide)) rfl D_led_back.g D_led_back.F.kp D_led_back.b .nil pass0 (pa_cons (pv 10) pa_nil)) pa_nil))))
      (pss_cons (ps_set (i := 3) scWf.nd rfl (Or.inl rfl) (pe_dispT (Nat.lt_of_succ_lt hu) (pv 1) (pe_call G_still (hr.mono (by decide)) rfl D_still.g D_still.F.kp D_still.b .nil pass0 (pa_cons (pe_meth0 (pv 0) cl M_Group_truths.m M_Group_truths.g (hr.mono (by decide)) M_Group_truths.b .nil pass0) pa_nil))))
      (pss_cons (ps_set (i := 4) scWf.nd rfl (Or.inl rfl) (pe_lst (pa_cons (pv 1) pa_nil)))
      (pss_cons (ps_while PassesOwn.never (pt_truth (pv 4) (fun _ => rfl)) (pss_cons (ps_set (i := 5) scWf.nd rfl (Or.inl rfl) (pe_bm0 PySem.F.plainAttrs_list PySem.F.slot_list_pop PySem.F.type_list_pop mt_pop (pv 4)))
      (pss_cons (ps_set (i := 6) scWf.nd rfl (Or.inr rfl) (pe_call G_worth_table (hr.mono (by decide)) rfl D_worth_table.g D_worth_table.F.kp D_worth_table.b .nil pass0 (pa_cons (pv 5) pa_nil)))
      (pss_one (ps_for PassesOwn.never rfl (pi_list (pv 2)) (pg_tup rfl (pgs_cons (pg_name (i := 7) scWf.nd rfl (Or.inl rfl)) (pgs_cons (pg_name (i := 8) scWf.nd rfl (Or.inl rfl)) pgs_nil))) (pss_cons (ps_set (i := 9) scWf.nd rfl (Or.inl rfl) (pe_callTy call_tuple_of (by rfl) B.tuple (by decide +kernel) (pa_cons (pe_lc (own := [("letter", 11)]) (g := gName 11) (tt := tYes) (te := tWf_2 K) rfl scWf.nd (pi_tup (pv 8)) (blkOk_by (own := [("letter", 11)]) (N := nWf) (sc := (defScope sWf)) (by decide +kernel)) (fun _ _ _ _ _ => pg_name (i := 11) scWf.nd rfl (Or.inl rfl)) (fun _ _ _ _ _ => pts_nil) (fun _ _ _ _ _ => pe_ix ix_tup (pv 6) (pv 11) (fun _ _ => rfl))) pa_nil)))
      (pss_one (ps_if (pt_cmp (pc_dnotin hu (pv 9) (pv 3))) (pss_cons (ps_dput hu (pv 3) (pv 9) (pe_call G_led_on (hr.mono (by decide)) rfl D_led_on.g D_led_on.F.kp D_led_on.b .nil pass0 (pa_cons (pe_dget hu (pv 3) (pv 5) (fun _ _ => rfl)) (pa_cons (pv 7) pa_nil))) rfl)
      (pss_one (ps_expr (pe_bm PySem.F.plainAttrs_list PySem.F.slot_list_append PySem.F.type_list_append mt_append (pv 4) (pa_cons (pv 9) pa_nil))))) pss_nil))))))))
      (pss_one (ps_ret (pv 3))))))), ?_⟩
    show tSeq _ _ _ [some (.ref gr), some (.ref a), none, none, none, none, none, none, none, none, none, none] H
    have eZ : sizeLine = 16777216 := rfl
    have n1 := G.n1
    have n12 := G.n12
    have okM : ∀ L ∈ makL n Ls, Trn n L := fun L hL => G.tr L ((makL_mem.mp hL).1)
    have l60 : (makL n Ls).length ≤ 60 := Nat.le_trans makL_len G.l60
    generalize hM : makL n Ls = Ms at *
    -- is it an answer
    obtain ⟨dx, mk, c0, pl0, la, ga, wa, ma, ds, gs, ws, ms, A0, _⟩ := G.at_
    have ob0 := A0.ob
    have bvs : (W.map V.int).all bitBZ = true := by
      rw [List.all_eq_true]
      intro y hy
      obtain ⟨z, hz, rfl⟩ := List.mem_map.mp hy
      exact decide_eq_true (bW.2 z hz)
    refine seq_gen (fun σ' H' => σ' = [some (.ref gr), some (.ref a), none, none, none, none, none, none, none, none, none, none] ∧ Same H H') (fun nx hnx => ?_) ?_
    · refine ⟨_, rfl, _, rfl, gr, dx, _, rfl, ob0, rfl, gr, n, fs, Ls, lv, ow, rfl, G, .ref a, (n : Int), some (W.map V.int), rfl, ⟨a, rfl, ha, by rw [List.length_map, bW.1]; omega, fun y hy => ?_⟩, fun H1 s1 => ?_⟩
      · obtain ⟨z, _, rfl⟩ := List.mem_map.mp hy
        exact ⟨_, .int z⟩
      · have e : wsBZ (some (W.map V.int)) (n : Int) = true := by
          show (decide (((W.map V.int).length : Int) = (n : Int)) && _) = true
          rw [bvs, List.length_map, bW.1, decide_eq_true rfl]
          rfl
        rw [e]
        exact ⟨true, rfl, iteF (hnx _ _ ⟨rfl, s1⟩)⟩
    rintro σ1 H1 ⟨rfl, s1⟩
    -- leads
    refine seq_gen (fun σ' H' => ∃ (ld : Addr) (ys : List V), σ' = [some (.ref gr), some (.ref a), some (.ref ld), none, none, none, none, none, none, none, none, none] ∧ Same H H' ∧ H' ld = some (.lst ys) ∧ Paired (LeadE n H') ys Ms) (fun nx hnx => ?_) ?_
    · refine ⟨_, rfl, gr, dx, _, rfl, s1 _ _ ob0, rfl, gr, n, fs, Ls, lv, ow, rfl, G.same s1, fun ml ds2 H2 s2 nml hml tm => ⟨ml, rfl, ⟨_, SqL.of hml⟩, fun D hD => ?_⟩⟩
      rw [hM] at tm
      have lds := TupsAt.len tm
      refine lc_gen (walk_list (K := K) (a := ml) (xs := ds2.map V.ref)) (R := fun (L : List Int) y H' => LeadE n H' y L) (I := fun _ => True) (zs := []) (xs := Ms) (kp := fun _ => true) (by rw [List.length_map, lds]) (by omega) hD (fun z => nomatch z) trivial (fun _ _ _ _ => trivial) (fun H2 b _ => SqL.of (b.same _ _ hml)) ?_ fun H3 ys b _ hy pr => ?_
      · rintro i L x Hz H3 T F' hL b _ ⟨acc, hacc⟩ ⟨rfl, hx⟩ hT _
        rw [List.getElem?_map] at hx
        obtain ⟨c, hc, rfl⟩ := Option.map_eq_some_iff.mp hx
        obtain ⟨L', hL', hcL⟩ := TupsAt.get (TupsAt.same b.same tm) hc
        rw [hL] at hL'
        cases hL'
        have tl := okM L (List.mem_of_getElem? hL)
        have ll := tl.len
        refine ⟨rfl, yesT ?_⟩
        show tWf_1 K [some (.ref gr), some (.ref a), none, none, none, none, none, none, none, none, some (.ref c), none] H3 _
        unfold tWf_1
        refine ⟨_, rfl, c, L, rfl, SqT.of hcL, (fun z => by rw [z] at ll; simp at ll; omega), by omega, fun t H4 s4 ht => ⟨_, rfl, c, n, L, rfl, SqT.of (s4 _ _ hcL), tl, by omega, fun bb Bl H5 bk s5 hb => ⟨by show 2 ≤ sizeLine; decide, fun p hp => ?_⟩⟩⟩
        have s6 := Same.new (o := .tup [.ref t, .ref bb]) hp
        have s46 := Same.trans s4 (Same.trans s5 s6)
        refine hT _ _ rfl (.of s46) trivial fun H7 b7 => ?_
        have nD : ∀ {x : Addr} {ys : List V}, upd H5 p (.tup [.ref t, .ref bb]) x = some (.tup ys) → x ∉ [D] := fun {x ys} h z => by
          rw [List.mem_singleton.mp z, s46 _ _ hacc] at h
          cases h
        have h1 : upd H5 p (.tup [.ref t, .ref bb]) p = some (.tup [.ref t, .ref bb]) := upd_same
        have h2 := s6 _ _ (s5 _ _ ht)
        have h3 := s6 _ _ hb
        exact ⟨p, t, bb, Bl, rfl, b7 _ _ h1 (nD h1), b7 _ _ h2 (nD h2), b7 _ _ h3 (nD h3), bk⟩
      · rw [List.filter_eq_self.mpr fun _ _ => rfl] at pr
        exact hnx _ _ ⟨D, ys, rfl, Same.trans s1 (Same.trans s2 b.same), hy, pr⟩
    rintro σ2 H2 ⟨ld, ys, rfl, s2, hld, pl⟩
    have lys := pairLn pl
    -- ways
    refine seq_gen (fun σ' H' => ∃ (gd : Addr) (kvs : List (List Key × V)), σ' = [some (.ref gr), some (.ref a), some (.ref ld), some (.ref gd), none, none, none, none, none, none, none, none] ∧ Same H2 H' ∧ H2 gd = none ∧ H' gd = some (.dT kvs) ∧ Paired (WayE H') kvs (wIt n Ms W 0).1) (fun nx hnx => ?_) ?_
    · intro p hp
      have sp := Same.new (o := .dT []) hp
      have hp1 : upd H2 p (.dT []) p = some (.dT []) := upd_same
      generalize upd H2 p (.dT []) = H3 at *
      refine ⟨_, rfl, _, rfl, gr, dx, _, rfl, sp _ _ (s2 _ _ ob0), rfl, gr, n, fs, Ls, lv, ow, rfl, G.same (Same.trans s2 sp), (n : Int), rfl, by omega, by omega, fun b H4 s4 hb => ?_⟩
      rw [Int.toNat_natCast] at hb
      have hp4 := s4 _ _ hp1
      have npa : p ≠ a := fun z => by rw [z, s2 _ _ hat] at hp; cases hp
      have npb : b ≠ p := fun z => by rw [z, hp4] at hb; cases hb
      refine ⟨hp4, tkey W, a, rfl, by rw [tkey_kV]; exact s4 _ _ (sp _ _ (s2 _ _ hat)), hnx _ _ ⟨p, _, rfl, Same.upN (Same.trans sp s4) hp, hp, upd_same, .cons ⟨rfl, b, rfl, by rw [upd_ne npb]; exact hb⟩ .nil⟩⟩
    rintro σ3 H3 ⟨gd, kvs0, rfl, s3, ngd, hgd, pw0⟩
    -- waiting
    refine seq_gen (fun σ' H' => ∃ (wt : Addr), σ' = [some (.ref gr), some (.ref a), some (.ref ld), some (.ref gd), some (.ref wt), none, none, none, none, none, none, none] ∧ Same H2 H' ∧ H2 wt = none ∧ wt ≠ gd ∧ H' gd = some (.dT kvs0) ∧ Paired (WayE H') kvs0 (wIt n Ms W 0).1 ∧ H' wt = some (.lst [.ref a])) (fun nx hnx => ?_) ?_
    · refine ⟨_, rfl, by show 1 ≤ sizeLine; decide, fun wt hwt => ?_⟩
      have sw := Same.new (o := .lst [V.ref a]) hwt
      exact hnx _ _ ⟨wt, rfl, Same.trans s3 sw, Same.nn s3 hwt, (fun z => by rw [z, hgd] at hwt; cases hwt), sw _ _ hgd, pairImp pw0 fun _ _ h => h.same sw, upd_same⟩
    rintro σ4 H4 ⟨wt, rfl, s4, nwt, nwg, hgd4, pw4, hwt4⟩
    let Pv : St → Hp → Prop := fun σ' H' => ∃ (l5 l6 l7 l8 l9 : Option V) (k : Nat) (kvs : List (List Key × V)) (bs : List Addr), σ' = [some (.ref gr), some (.ref a), some (.ref ld), some (.ref gd), some (.ref wt), l5, l6, l7, l8, l9, none, none] ∧ Same H2 H' ∧ H' gd = some (.dT kvs) ∧ Paired (WayE H') kvs (wIt n Ms W k).1 ∧ H' wt = some (.lst (bs.map V.ref)) ∧ TupsAt H' bs (wIt n Ms W k).2
    refine seq_gen (fun σ' H' => ∃ k, Pv σ' H' ∧ (wIt n Ms W k).2 = [] ∧ ∃ kvs, H' gd = some (.dT kvs) ∧ Paired (WayE H') kvs (wIt n Ms W k).1) (fun nx hnx => ?_) ?_
    · refine while_by (Pv := Pv) (μ := fun _ H' => 2 * (2 ^ n - lenDTz H' gd) + lenLK H' wt) ⟨none, none, none, none, none, 0, kvs0, [a], rfl, s4, hgd4, pw4, hwt4, .cons (s4 _ _ (s2 _ _ hat)) .nil⟩ ?_ ?_
      · rintro σ H5 ⟨l5, l6, l7, l8, l9, k, kvs, bs, rfl, s5, hg5, pw5, hw5, tb5⟩
        obtain ⟨I5, c5⟩ := wit_ok okM bW k
        have few5 := I5.few bW
        generalize est : wIt n Ms W k = st at *
        have lbs := TupsAt.len tb5
        have lkv := pairLn pw5
        rcases List.eq_nil_or_concat bs with rfl | ⟨bs0, b0, rfl⟩
        · have e2 : st.2 = [] := List.eq_nil_of_length_eq_zero (by rw [← lbs]; rfl)
          refine ⟨_, rfl, false, .inl ⟨_, SqL.of hw5, rfl⟩, iteF (hnx _ _ ⟨k, ⟨l5, l6, l7, l8, l9, k, kvs, [], rfl, s5, hg5, by rw [est]; exact pw5, hw5, by rw [est]; exact tb5⟩, by rw [est]; exact e2, kvs, hg5, by rw [est]; exact pw5⟩)⟩
        rw [List.concat_eq_append] at *
        obtain ⟨ls0, s, e2⟩ : ∃ ls0 s, st.2 = ls0 ++ [s] := by
          rcases List.eq_nil_or_concat st.2 with e | ⟨l, s, e⟩
          · rw [e, List.length_append] at lbs
            simp at lbs
          · exact ⟨l, s, by rw [e, List.concat_eq_append]⟩
        have est2 : wStep n Ms st = Ms.foldl (wPut n s) (st.1, ls0) := by
          unfold wStep
          rw [e2, List.getLast?_concat, List.dropLast_concat]
        rw [e2] at tb5
        obtain ⟨tb0, hb0⟩ := pairUnsnoc tb5
        have sk : s ∈ st.1.map (·.1) := I5.lin s (by rw [e2]; exact List.mem_append_right _ List.mem_cons_self)
        have bS : Bits n s := by
          obtain ⟨p, hp, e⟩ := List.mem_map.mp sk
          rw [← e]
          exact (I5.gen p hp).2.2.bits bW
        refine ⟨_, rfl, true, .inl ⟨_, SqL.of hw5, by rw [List.map_append]; cases bs0 <;> rfl⟩, iteT ?_⟩
        have m5 : 2 * (2 ^ n - lenDTz H5 gd) + lenLK H5 wt = 2 * (2 ^ n - st.1.length) + (ls0.length + 1) := by
          unfold lenDTz lenLK
          rw [hg5, hw5]
          show 2 * (2 ^ n - kvs.length) + ((bs0 ++ [b0]).map V.ref).length = _
          rw [lkv, List.length_map, lbs, e2, List.length_append]
          rfl
        rw [m5]
        -- start
        refine seq_gen (fun σ' H' => σ' = [some (.ref gr), some (.ref a), some (.ref ld), some (.ref gd), some (.ref wt), some (.ref b0), l6, l7, l8, l9, none, none] ∧ H' = upd H5 wt (.lst (bs0.map V.ref))) (fun nx2 hnx2 => ?_) ?_
        · refine ⟨_, rfl, .inl ⟨rfl, _, SqL.of hw5⟩, wt, _, .ref b0, rfl, rfl, hw5, ?_, ?_⟩
          · rw [List.map_append, List.length_append]
            simp
          · rw [List.map_append, List.map_singleton, List.dropLast_concat]
            exact hnx2 _ _ ⟨rfl, rfl⟩
        rintro σ6 H6' ⟨rfl, rfl⟩
        have s6 : Same H2 (upd H5 wt (.lst (bs0.map V.ref))) := Same.upN s5 nwt
        have hg6 : upd H5 wt (.lst (bs0.map V.ref)) gd = some (.dT kvs) := by rw [upd_ne (Ne.symm nwg)]; exact hg5
        have hw6 : upd H5 wt (.lst (bs0.map V.ref)) wt = some (.lst (bs0.map V.ref)) := upd_same
        have pw6 : Paired (WayE (upd H5 wt (.lst (bs0.map V.ref)))) kvs st.1 := pairImp pw5 fun _ _ h => h.updN hw5 (fun ys z => by cases z)
        have tb6 : TupsAt (upd H5 wt (.lst (bs0.map V.ref))) bs0 ls0 := TupsAt.updN hw5 (fun ys z => by cases z) tb0
        have hb6 : upd H5 wt (.lst (bs0.map V.ref)) b0 = some (.tup (s.map V.int)) := by rw [upd_ne (fun z => by rw [z, hw5] at hb0; cases hb0)]; exact hb0
        generalize upd H5 wt (.lst (bs0.map V.ref)) = H6 at *
        -- holds
        refine seq_gen (fun σ' H' => ∃ ho : Addr, σ' = [some (.ref gr), some (.ref a), some (.ref ld), some (.ref gd), some (.ref wt), some (.ref b0), some (.ref ho), l7, l8, l9, none, none] ∧ Same H6 H' ∧ H' ho = some (.tup ((wtLZ s).map V.int))) (fun nx2 hnx2 => ?_) ?_
        · have ls := bS.1
          exact ⟨_, rfl, b0, s, rfl, SqT.of hb6, (fun z => by rw [z] at ls; simp at ls; omega), by omega, fun ho H7 s7 hho => hnx2 _ _ ⟨ho, rfl, s7, hho⟩⟩
        rintro σ7 H7 ⟨ho, rfl, s7, hho⟩
        have I0 : WInv n Ms W (st.1, ls0) := ⟨I5.nd, I5.gen, I5.one, fun x h => I5.lin x (by rw [e2]; exact List.mem_append_left _ h), by have := I5.le; rw [e2, List.length_append] at this; show ls0.length ≤ st.1.length; omega⟩
        refine ⟨_, rfl, ld, rfl, ⟨_, SqL.of (s7 _ _ (s6 _ _ hld))⟩, for_list (K := K) (a := ld) (xs := ys) (fun m σ' H' => ∃ (l7 l8 l9 : Option V) (kvs : List (List Key × V)) (bs : List Addr), σ' = [some (.ref gr), some (.ref a), some (.ref ld), some (.ref gd), some (.ref wt), some (.ref b0), some (.ref ho), l7, l8, l9, none, none] ∧ Same H2 H' ∧ H' b0 = some (.tup (s.map V.int)) ∧ H' ho = some (.tup ((wtLZ s).map V.int)) ∧ H' gd = some (.dT kvs) ∧ Paired (WayE H') kvs ((Ms.take m).foldl (wPut n s) (st.1, ls0)).1 ∧ H' wt = some (.lst (bs.map V.ref)) ∧ TupsAt H' bs ((Ms.take m).foldl (wPut n s) (st.1, ls0)).2)
          ⟨l7, l8, l9, kvs, bs0, rfl, Same.trans s6 s7, s7 _ _ hb6, hho, s7 _ _ hg6, pairImp pw6 fun _ _ h => h.same s7, s7 _ _ hw6, tb6.same s7⟩ (fun j σ' H' _ ⟨_, _, _, _, _, _, e, _⟩ => SqL.of (e _ _ hld)) ?_ ?_⟩
        · rintro m y σ' H8 hm ⟨l7, l8, l9, kvs8, bs8, rfl, s8, hb8, hh8, hg8, pw8, hw8, tb8⟩
          obtain ⟨L, hL, p, t, bb, Bl, rfl, hp0, ht0, hbb0, bk⟩ := pairGetK pl hm
          have Lm := List.mem_of_getElem? hL
          have tL := okM L Lm
          obtain ⟨I8, up8, _⟩ := I0.fold okM bW (s := s) (Ms := Ms.take m) (fun L h => List.mem_of_mem_take h) sk
          have sk8 := up8 s sk
          have tk : (Ms.take (m + 1)).foldl (wPut n s) (st.1, ls0) = wPut n s ((Ms.take m).foldl (wPut n s) (st.1, ls0)) L := by
            rw [List.take_add_one, hL, List.foldl_append]
            rfl
          rw [tk]
          have few8 := I8.few bW
          generalize (Ms.take m).foldl (wPut n s) (st.1, ls0) = st8 at *
          refine ⟨p, _, rfl, SqT.of (s8 _ _ hp0), rfl, _, _, rfl, _, _, rfl, rfl, ?_⟩
          show tSeq _ _ _ [some (.ref gr), some (.ref a), some (.ref ld), some (.ref gd), some (.ref wt), some (.ref b0), some (.ref ho), some (.ref t), some (.ref bb), l9, none, none] H8
          have lBl := bk.len
          have tBl := bk.trn tL
          refine seq_gen (fun σ' H' => ∃ c : Addr, σ' = [some (.ref gr), some (.ref a), some (.ref ld), some (.ref gd), some (.ref wt), some (.ref b0), some (.ref ho), some (.ref t), some (.ref bb), some (.ref c), none, none] ∧ Same H8 H' ∧ H' c = some (.tup ((ledA n L s).map V.int))) (fun nx2 hnx2 => ?_) ?_
          · refine ⟨_, rfl, bb, rfl, ⟨_, SqT.of (s8 _ _ hbb0)⟩, fun D hD => lc_gen (L2.walk_tup (K := K) (a := bb) (xs := Bl.map V.int)) (R := fun (l : Int) y _ => y = V.int (wvZ s l)) (I := fun _ => True) (zs := []) (xs := Bl) (kp := fun _ => true) (by rw [List.length_map]) (by omega) hD (fun z => nomatch z) trivial (fun _ _ _ _ => trivial) (fun H2 b _ => SqT.of (b.same _ _ (s8 _ _ hbb0))) ?_ fun H9 zs b _ hy pr => ?_⟩
            · rintro i l x Hz H9 T F' hl b _ ⟨acc, hacc⟩ ⟨rfl, hx⟩ hT _
              rw [List.getElem?_map, hl] at hx
              cases hx
              have lt := tBl.bd (List.mem_of_getElem? hl)
              refine ⟨rfl, yesT ?_⟩
              exact ⟨_, rfl, _, rfl, p_ixT (SqT.of (b.same _ _ hh8)) (wt_atZ bS lt) (hT _ _ rfl .refl trivial fun _ _ => rfl)⟩
            · rw [List.filter_eq_self.mpr fun _ _ => rfl] at pr
              have ez := pair_intsZ pr
              subst ez
              refine ⟨D, _, rfl, .inl ⟨SqL.of hy, fun c hc => ?_⟩⟩
              rw [wv_ledZ tL bk bS]
              exact hnx2 _ _ ⟨c, rfl, Same.trans b.same (Same.new hc), upd_same⟩
          rintro σ9 H9 ⟨c, rfl, s9, hc9⟩
          have hg9 := s9 _ _ hg8
          have pw9 := pairImp pw8 fun _ _ h => WayE.same s9 h
          have hw9 := s9 _ _ hw8
          have tb9 := tb8.same s9
          have vk := val_keys tkey_inj (ways_keys pw9) (ledA n L s)
          refine ⟨_, rfl, _, rfl, gd, _, rfl, DGet.t (k := tkey (ledA n L s)) hg9 (by rw [tkey_kV]; exact hc9), _, rfl, ?_⟩
          unfold wPut
          by_cases cc : ledA n L s ∈ st8.1.map (·.1)
          · have vk2 : (valV kvs8 (tkey (ledA n L s))).isSome = true := by rw [vk]; exact (show ∀ (i : Decidable (ledA n L s ∈ st8.1.map (·.1))), @decide _ i = true from fun i => @decide_eq_true _ i cc) _
            rw [if_pos cc, vk2]
            exact iteF ⟨_, _, _, kvs8, bs8, rfl, Same.trans s8 s9, s9 _ _ hb8, s9 _ _ hh8, hg9, pw9, hw9, tb9⟩
          · have vk2 : (valV kvs8 (tkey (ledA n L s))).isSome = false := by rw [vk]; exact (show ∀ (i : Decidable (ledA n L s ∈ st8.1.map (·.1))), @decide _ i = false from fun i => @decide_eq_false _ i cc) _
            rw [if_neg cc, vk2]
            obtain ⟨wb, hwb, hwt⟩ := ways_val pw9 sk8
            have gw := (I8.gen _ (wayOf_mem sk8)).1
            have hvn : valV kvs8 (tkey (ledA n L s)) = none := by
              cases h : valV kvs8 (tkey (ledA n L s)) with
              | none => rfl
              | some z => rw [h] at vk2; cases vk2
            have lk8 := pairLn pw9
            have p12 : 2 ^ n ≤ 4096 := Nat.pow_le_pow_right (by decide) n12
            refine iteT ⟨_, rfl, _, rfl, gd, _, rfl, by rw [← tkey_kV] at hb8; exact hwb ▸ DGet.t (k := tkey s) hg9 (s9 _ _ hb8), _, rfl, wb, t, n, wayOf st8.1 s, L, rfl, SqT.of hwt, gw.trn okM, by omega, SqT.of (s9 _ _ (s8 _ _ ht0)), tL.len, fun j H10 s10 hj => ?_⟩
            have hg10 := s10 _ _ hg9
            refine ⟨_, rfl, _, rfl, gd, _, rfl, DPut.t (k := tkey (ledA n L s)) hg10 (by rw [tkey_kV]; exact s10 _ _ hc9) (by omega), ?_⟩
            rw [putK_new _ hvn]
            have s8_10 := Same.trans s8 (Same.trans s9 s10)
            have ne1 : ∀ {x : Addr} {ys : List V}, H10 x = some (.tup ys) → x ≠ gd := fun {x ys} h z => by rw [z, hg10] at h; cases h
            have s11 : Same H2 (upd H10 gd (.dT (kvs8 ++ [(tkey (ledA n L s), .ref j)]))) := Same.upN s8_10 ngd
            have hg11 : upd H10 gd (.dT (kvs8 ++ [(tkey (ledA n L s), .ref j)])) gd = some (.dT (kvs8 ++ [(tkey (ledA n L s), .ref j)])) := upd_same
            have hw11 : upd H10 gd (.dT (kvs8 ++ [(tkey (ledA n L s), .ref j)])) wt = some (.lst (bs8.map V.ref)) := by rw [upd_ne nwg]; exact s10 _ _ hw9
            have keep : ∀ {x : Addr} {ys : List V}, H10 x = some (.tup ys) → upd H10 gd (.dT (kvs8 ++ [(tkey (ledA n L s), .ref j)])) x = some (.tup ys) := fun {x ys} h => by rw [upd_ne (ne1 h)]; exact h
            have pw11 : Paired (WayE (upd H10 gd (.dT (kvs8 ++ [(tkey (ledA n L s), .ref j)])))) (kvs8 ++ [(tkey (ledA n L s), V.ref j)]) (st8.1 ++ [(ledA n L s, joined (wayOf st8.1 s) L)]) :=
              pairSnoc (pairImp pw9 fun _ _ h => (h.same s10).updN hg10 (fun ys z => by cases z)) ⟨rfl, j, rfl, keep hj⟩
            have tb11 := TupsAt.updN hg10 (o' := .dT (kvs8 ++ [(tkey (ledA n L s), V.ref j)])) (fun ys z => by cases z) (tb9.same s10)
            have hc11 := keep (s10 _ _ hc9)
            have hb11 := keep (s10 _ _ (s9 _ _ hb8))
            have hh11 := keep (s10 _ _ (s9 _ _ hh8))
            have lb8 := TupsAt.len tb8
            generalize upd H10 gd (.dT (kvs8 ++ [(tkey (ledA n L s), .ref j)])) = H11 at *
            refine ⟨_, rfl, .inl ⟨rfl, _, SqL.of hw11⟩, _, rfl, wt, _, _, rfl, rfl, hw11, by rw [List.length_map]; have := I8.le; omega, ?_⟩
            have ne2 : ∀ {x : Addr} {ys : List V}, H11 x = some (.tup ys) → x ≠ wt := fun {x ys} h z => by rw [z, hw11] at h; cases h
            exact ⟨_, _, _, _, bs8 ++ [c], rfl, Same.upN s11 nwt, by rw [upd_ne (ne2 hb11)]; exact hb11, by rw [upd_ne (ne2 hh11)]; exact hh11, by rw [upd_ne (Ne.symm nwg)]; exact hg11, pairImp pw11 fun _ _ h => h.updN hw11 (fun ys z => by cases z), by rw [upd_same, List.map_append]; rfl, pairSnoc (TupsAt.updN hw11 (fun ys z => by cases z) tb11) (by rw [upd_ne (ne2 hc11)]; exact hc11)⟩
        · rintro σ' H8 ⟨l7, l8, l9, kvs8, bs8, rfl, s8, hb8, hh8, hg8, pw8, hw8, tb8⟩
          rw [lys, List.take_length] at pw8 tb8
          have f8 := I0.fold okM bW (s := s) (Ms := Ms) (fun L h => h) sk
          rw [← est2] at pw8 tb8 f8
          have few8 := f8.1.few bW
          have e4 := f8.2.2.2.1
          have e5 := f8.2.2.2.2.1
          refine ⟨⟨_, _, l7, l8, l9, k + 1, kvs8, bs8, rfl, s8, hg8, ?_, hw8, ?_⟩, ?_⟩
          · show Paired _ _ (wStep n Ms (wIt n Ms W k)).1
            rw [est]
            exact pw8
          · show TupsAt _ _ (wStep n Ms (wIt n Ms W k)).2
            rw [est]
            exact tb8
          · have a1 : lenDTz H8 gd = (wStep n Ms st).1.length := by unfold lenDTz; rw [hg8]; exact pairLn pw8
            have a2 : lenLK H8 wt = (wStep n Ms st).2.length := by unfold lenLK; rw [hw8]; show (bs8.map V.ref).length = _; rw [List.length_map, TupsAt.len tb8]
            show 2 * (2 ^ n - lenDTz H8 gd) + lenLK H8 wt < _
            rw [a1, a2]
            have e4' : 2 * (wStep n Ms st).1.length = 2 * st.1.length + 2 * ((wStep n Ms st).2.length - ls0.length) := e4
            have e5' : ls0.length ≤ (wStep n Ms st).2.length := e5
            omega
      · intro σ H Q Q' hq h
        obtain ⟨v, hv, b, e, h⟩ := h
        exact ⟨v, hv, b, e, hq _ _ h⟩
    rintro σ5 H5 ⟨k, ⟨l5, l6, l7, l8, l9, _, _, _, rfl, s5, _⟩, e2, kvs, hg5, pw5⟩
    have ew := waysL_eq e2
    exact ⟨_, rfl, q gd kvs _ (Same.trans s2 s5) (Same.nn s2 ngd) hg5 (by rw [ew]; exact pw5) (by rw [ew]; exact wIt_ways okM bW e2)⟩
end
end Toy

-- part: MN1
/-! min(xs) of a list of tuples of ints, of any lengths -/
namespace L2
open PySem PySem.Spec PySem.Calls PyProof.Rows Toy
theorem argBest_swo {lt : Nat → Nat → Bool} (O : SrtO.Swo lt) : ∀ k, argBest lt k ≤ k ∧ ∀ j, j ≤ k → lt j (argBest lt k) = false
  | 0 => ⟨Nat.le_refl _, fun j hj => by
    have : j = 0 := by omega
    subst this
    exact O.refl 0⟩
  | k + 1 => by
    obtain ⟨i1, i2⟩ := argBest_swo O k
    cases hb : lt (k + 1) (argBest lt k) with
    | true =>
      have e : argBest lt (k + 1) = k + 1 := by show (if lt (k + 1) (argBest lt k) = true then k + 1 else argBest lt k) = _; rw [if_pos hb]
      rw [e]
      refine ⟨Nat.le_refl _, fun j hj => ?_⟩
      rcases Nat.lt_or_ge k j with h | h
      · have : j = k + 1 := by omega
        subst this
        exact O.refl _
      · exact O.tr (k + 1) (argBest lt k) j (O.asym _ _ hb) (i2 j h)
    | false =>
      have e : argBest lt (k + 1) = argBest lt k := by show (if lt (k + 1) (argBest lt k) = true then k + 1 else argBest lt k) = _; rw [if_neg (by rw [hb]; decide)]
      rw [e]
      refine ⟨by omega, fun j hj => ?_⟩
      rcases Nat.lt_or_ge k j with h | h
      · have : j = k + 1 := by omega
        subst this
        exact hb
      · exact i2 j h
def rMinTL (K : PySem.W.Frag) : List V → Hp → VK → Prop := fun vs H Q => ∃ (a : Addr) (bs : List Addr) (cs : List (List Int)), vs = [.ref a] ∧ SqL K H a (bs.map V.ref) ∧ TupsAt H bs cs ∧ bs ≠ [] ∧ ∀ (b : Addr) (c : List Int), b ∈ bs → H b = some (.tup (c.map V.int)) → c ∈ cs → (∀ d ∈ cs, HT.lexLt d c = false) → Q (.ref b) H
theorem cr_minTL {X : Cx} (hc : X.calm = true) (hu : X.A.units + 64 < cLine) : CallR X (.builtin "min") (rMinTL X.K) := by
  intro pins s σ H vs us Q I r h
  obtain ⟨a, bs, cs, rfl, hs, ts, hne, q⟩ := h
  obtain ⟨its, rv, hl, hz⟩ := I.list hs
  rw [Vals.ref1 r]
  have ei := nts_of rv
  subst ei
  have hm := TupsAt.mem ts
  have hcs := TupsAt.ct ts
  have h0 : 0 < (bs.map Value.ref).toArray.size := by
    rw [List.size_toArray, List.length_map]
    exact List.length_pos_iff.mpr hne
  have O : SrtO.Swo (fun i j : Nat => HT.lexLt (cs.getD i []) (cs.getD j [])) := NtL.swo_lexL fun i => cs.getD i []
  have at_ : ∀ (i : Nat) (v : Value), (bs.map Value.ref).toArray[i]? = some v → ∃ b, bs[i]? = some b ∧ v = .ref b ∧ cs.getD i [] = ctOf H b := fun i v hv => by
    have hv' : (bs.map Value.ref)[i]? = some v := by simpa using hv
    rw [List.getElem?_map] at hv'
    obtain ⟨b, hb, e⟩ := Option.map_eq_some_iff.mp hv'
    refine ⟨b, hb, e.symm, ?_⟩
    rw [← hcs, List.getD_eq_getElem?_getD, List.getElem?_map, hb]
    rfl
  refine call_min_walkH (PySem.W.iter_listW (A := X.A.in1) (I.ok.hd hc) hl.isList (fun s₂ e W st hfp hw hk => ?_))
  refine ⟨_, _, _, _, _, _, _, s.heap, fun i j => HT.lexLt (cs.getD i []) (cs.getD j []), rfl, W, st, hfp, h0, hw, hk, ?_, fun v s' hP m => ?_⟩
  · intro i j vi vj s1 Q1 E1 kp hi hj q1
    obtain ⟨b, hb, rfl, eb⟩ := at_ i vi hi
    obtain ⟨c, hc2, rfl, ec⟩ := at_ j vj hj
    have q1' : Q1 (.bool (HT.lexLt (cs.getD i []) (cs.getD j []))) s1 := q1
    rw [eb, ec] at q1'
    obtain ⟨_, items, e1, t1, i1⟩ := ((tupI_of I (hm b (List.mem_of_getElem? hb))).keeps fun c o _ e => kp c o e).tup
    obtain ⟨_, items2, e2, t2, i2⟩ := ((tupI_of I (hm c (List.mem_of_getElem? hc2))).keeps fun c o _ e => kp c o e).tup
    cases e1
    cases e2
    exact HT.lt_tupInts t1 t2 i1 i2 (by show X.A.units + 1 < cLine; omega) q1'
  · obtain ⟨h', tk, rfl, hk'⟩ := PySem.W.moved_old e rfl m
    obtain ⟨b, hb, rfl, eb⟩ := at_ _ v hP
    obtain ⟨b1, b2⟩ := argBest_swo O ((bs.map Value.ref).toArray.size - 1)
    have mb := List.mem_of_getElem? hb
    refine ⟨.ref b, H, I.kept (t' := tk) hk', rfl, q b (ctOf H b) mb (hm b mb) (by rw [← hcs]; exact List.mem_map.mpr ⟨b, mb, rfl⟩) fun d hd => ?_⟩
    obtain ⟨i, hi, e⟩ := List.mem_iff_getElem.mp hd
    have hlc : cs.length = bs.length := by rw [← hcs, List.length_map]
    have := b2 i (by rw [List.size_toArray, List.length_map]; omega)
    rw [← eb]
    have e2 : cs.getD i [] = d := by rw [List.getD_eq_getElem?_getD, List.getElem?_eq_getElem hi, e]; rfl
    rw [← e2]
    exact this
end L2

-- part: FT
/-! a def whose code object is known (it makes lambdas), asked for reprs too; own classes without __init__ that are raised -/
namespace Toy
open PySem PySem.Spec PyProof.Rows L2
open LamX (Tabs TabS ExtN CodeO TabB)
section
variable {P : Program} {w : World} {K : PySem.W.Frag} {mg : Str → Option Value} {base : Heap}
structure FunT (K : PySem.W.Frag) (x qual : Str) (st : Stmt) (c f : Addr) (fd : FuncData) : Prop where
  ex : ∃ (oc : Value) (od : Option Addr) (kV doc pm : Value) (an : Option Addr) (ct : Value) (osl : Array (Option Value)),
    fd = PySem.W.fnOf x qual (defArgs st) (defBody st) (defScope st) .none kV doc pm an (.ref c) ct ∧ K.lookup f = some ⟨oc, od, .func fd, osl⟩ ∧ PySem.W.codeIn K (.ref c) qual = true
  kp : PySem.W.keepIn K (.ref f) = true
theorem FunT.ok {x qual : Str} {st : Stmt} {c f : Addr} {fd : FuncData} {N ps : List Str} {k : Nat} {sp : Sp} (F : FunT K x qual st c f fd) (S : FnScope N ps (defScope st)) (len : ∀ vs H Q E, sp vs H Q E → vs.length = ps.length)
    (hb : ∀ (A : Around) (outer : List Env) (s : Shared) (H : Hp) (vs : List V) (Q : VK) (E : XK), Room k (A.deeper (envOfC qual (defScope st) s.heap.objs.size f (.ref c))) → sp vs H Q E →
      ∃ t, PSs (cxOf CX0 P w K mg base N qual (defScope st) f (.ref c) A outer s H E).nox (defBody st) t ∧ t { nx := fun _ H' => Q .non H', rt := Q } (start N vs) H) : FnOk P w K mg base CX0 (k + 1) f fd ps sp := by
  obtain ⟨oc, od, kV, doc, pm, an, ct, osl, rfl, lk, hcd⟩ := F.ex
  refine fn_of lk hcd S len fun A outer s H vs Q E hr hsp => ?_
  obtain ⟨t, h, q⟩ := hb A outer s H vs Q E hr hsp
  exact ⟨t, h.nox, q⟩
theorem FnG.ofT {x qual : Str} {st : Stmt} {c f : Addr} {fd : FuncData} {N ps : List Str} {k : Nat} {sp : Sp} (F : FunT K x qual st c f fd) (S : FnScope N ps (defScope st)) (len : ∀ vs H Q E, sp vs H Q E → vs.length = ps.length)
    (hb : ∀ (A : Around) (outer : List Env) (s : Shared) (H : Hp) (vs : List V) (Q : VK) (E : XK), A.guards = some [] → Room k (A.deeper (envOfC qual (defScope st) s.heap.objs.size f (.ref c))) → sp vs H Q E →
      ∃ t, PSs (cxOf CX0 P w K mg base N qual (defScope st) f (.ref c) A outer s H E).nox (defBody st) t ∧ t { nx := fun _ H' => Q .non H', rt := Q } (start N vs) H) : FnG P w K mg base (k + 1) f fd ps sp := by
  obtain ⟨oc, od, kV, doc, pm, an, ct, osl, rfl, lk, hcd⟩ := F.ex
  refine ⟨len, fun A outer s H args us vs Q E hg hr e0 hbi r hsp => ?_⟩
  obtain ⟨t, ht, hq⟩ := hb A outer s H vs Q E hg (hr.deeper _) hsp
  have kept := fun b o e => (e0.bs b o e).1
  have KX : K.In s.heap := e0.mod.kin.keeps kept
  have kinds : ∀ y ∈ ps.zip us, (defScope st).names.lookup y.1 = some .local ∨ ((defScope st).names.lookup y.1 = some .cell ∧ ((cellsFrom (s.heap.objs.size + 1) (defScope st).names []).lookup y.1).isSome = true) := fun y hy =>
    (S.par y.1 (List.of_mem_zip (show (y.1, y.2) ∈ _ from hy)).1).imp id fun q => ⟨q, PySem.W.cellsFrom_some _ _ _ (.inl q)⟩
  refine codeAny_call_function hr.depth (KX _ _ lk) rfl S.co S.gen rfl (PySem.W.codeRec_of KX hcd) (hbi _ _ _ _ (wpAny_newFunctionEnv_cells S.kind kinds fun env he s1 x => ?_))
  subst he
  refine ⟨(e0.mod.nolimit.keeps kept).keeps x.toInCall.keep, codeAny_func ?_⟩
  have I : Inv (cxOf CX0 P w K mg base N qual (defScope st) f (.ref c) A outer s H E) [] (start N vs) H s1 := inv_start S hr.hd e0 (len _ _ _ _ hsp) r x
  refine wpAny_mono (ht.nox.run [] s1 (start N vs) H _ I hq) (fun fl s' hs => ?_) fun e s' hs => hs
  cases fl with
  | ret u =>
    obtain ⟨v, _, H', J, rv, q⟩ := hs
    exact ⟨v, H', J.os, J.bare, J.base, J.hok, rv, q⟩
  | next =>
    obtain ⟨_, H', J, q⟩ := hs
    exact ⟨V.non, H', J.os, J.bare, J.base, J.hok, rfl, q⟩
  | brk => exact hs.elim fun _ h => h.elim fun _ h => False.elim h.2
  | cont => exact hs.elim fun _ h => h.elim fun _ h => False.elim h.2
end
/-- an own class without __init__, under ValueError, that is raised -/
structure OwnX (K : PySem.W.Frag) (mg : Str → Option Value) (x : Str) (C : Addr) : Prop where
  g : mg x = some (.ref C)
  xc : PySem.W.excIn K C [.type "ValueError", .type "Exception", .type "BaseException", .type "object"] "ValueError.__new__" = true
  kp : PySem.W.keepIn K (.ref C) = true
  sb : PySem.W.subIn K (.ref C) (.type "BaseException") = some true
  ty : PySem.W.typeIn K (.ref C) = some (.type "type")
section
variable {X : Cx} {W : WX} {C : Addr} {x : Str} {e : Expr} {te : TE} {p p1 pos : Pos}
/-- raise x(e) -/
theorem ps_raiseOwn (O : OwnX X.K X.mg x C) (hc : X.calm = true) (tk : Takes X W) (hg : Gl X x) (he : PE X e te) (hs : starEach [e] X.env = (false, eval e X.env) :: starEach [] X.env := by rfl) (hdb : (x == ("__debug__" : Str)) = false := by decide) :
    PS X (.Raise (some (.Call (.Name x p) [e] [] p1)) none pos) (fun _ σ H => te σ H fun _ H1 => W (.ref C) none σ H1) :=
  ps_raise hc tk (SkE.pmk_own1 PySem.F.excBase_ValueError O.xc O.g O.kp (raises_own O.sb O.ty) hg he hs hdb)
/-- what may leave a lambda's body -/
theorem lam_takes {A : Around} {outer : List Env} {s : Shared} {H : Hp} {E : XK} {scope : Scope} {f c' : Addr} : Takes (LamX.lamCx X A outer s H E scope f c') (fun cls d _ H => E cls d H) := takes_of rfl rfl rfl rfl
theorem lam_pass {A : Around} {outer : List Env} {s : Shared} {H : Hp} {E : XK} {scope : Scope} {f c' : Addr} : Passes (L2.CX X.prog X.w) (LamX.lamCx X A outer s H E scope f c') E := passes_call lam_takes fun _ _ _ _ h => h
end
end Toy

-- part: KW2
namespace Toy
open PySem L2
section
variable {P : Program} {w : World} {K : PySem.W.Frag} {mg : Str → Option Value} {base : Heap}
/-! ### least -/
abbrev sLe : Stmt := s_least
abbrev nLe : List Str := ["group", "answer", "ways", "lowest"]
theorem scLe : FnScope nLe ["group", "answer"] (defScope sLe) := ⟨rfl, rfl, rfl, by decide +kernel, rfl, by decide +kernel, by decide +kernel⟩

/-- the least of these answers -/
def LeastIn (kv : List (List Int × List Int)) (M : List Int) : Prop := M ∈ kv.map (·.1) ∧ ∀ d ∈ kv.map (·.1), HT.lexLt d M = false
theorem LeastIn.eq {kv : List (List Int × List Int)} {M N : List Int} (h : LeastIn kv M) (k : LeastIn kv N) : M = N := lex_total _ _ (k.2 _ h.1) (h.2 _ k.1)
def spLe (K : PySem.W.Frag) (C CC : Addr) : Sp := fun vs H Q _ => ∃ (gr a : Addr) (n : Nat) (fs : List Int) (Ls : List (List Int)) (lv : List Lv) (ow : List Addr) (W : List Int), vs = [.ref gr, .ref a] ∧ Grp C CC H gr n fs Ls lv ow ∧ SqT K H a (W.map V.int) ∧ H a = some (.tup (W.map V.int)) ∧ Bits n W ∧
  ∀ (p c t : Addr) (M : List Int) (H' : Hp), Same H H' → H p = none → H' p = some (.tup [.ref c, .ref t]) → H' c = some (.tup (M.map V.int)) → H' t = some (.tup ((wayOf (waysL n (makL n Ls) W) M).map V.int)) → LeastIn (waysL n (makL n Ls) W) M → WaysOk n (makL n Ls) W (waysL n (makL n Ls) W) → Q (.ref p) H'
theorem ok_le {f f__ways_from : Addr} {fd fd__ways_from : FuncData} {C CC : Addr} (F : Fun K "least" "least" sLe f fd) (B : Bl mg) (cl : Cls K C) (D__ways_from : Df K mg "_ways_from" sWf ["group", "answer"] f__ways_from fd__ways_from) (G__ways_from : FnOk P w K mg base CX0 3 f__ways_from fd__ways_from ["group", "answer"] (spWf K C CC)) : FnOk P w K mg base CX0 4 f fd ["group", "answer"] (spLe K C CC) := by
  refine F.ok scLe (fun vs H Q E h => ?_) (fun cdv A outer s H vs Q E hr h => ?_)
  · obtain ⟨gr, a, n, fs, Ls, lv, ow, W, rfl, _⟩ := h
    rfl
  · obtain ⟨gr, a, n, fs, Ls, lv, ow, W, rfl, G, ha, hat, bW, q⟩ := h
    have hu := hu_of hr
    refine ⟨_, pss_cons (ps_set (i := 2) scLe.nd rfl (Or.inl rfl) (pe_call G__ways_from hr rfl D__ways_from.g D__ways_from.F.kp D__ways_from.b .nil pass0 (pa_cons (pv 0) (pa_cons (pv 1) pa_nil))))
      (pss_cons (ps_set (i := 3) scLe.nd rfl (Or.inl rfl) (pe_callB (cr_minTL rfl hr.units) (by rfl) B.min (by decide +kernel) (pa_cons (pe_callTy (call_list_dT rfl) (by rfl) B.list (by decide +kernel) (pa_cons (pv 2) pa_nil)) pa_nil)))
      (pss_one (ps_ret (pe_tup (pa_cons (pv 3) (pa_cons (pe_dget hu (pv 2) (pv 3) (fun _ _ => rfl)) pa_nil)))))), ?_⟩
    show tSeq _ _ _ [some (.ref gr), some (.ref a), none, none] H
    refine seq_gen (fun σ' H' => ∃ (d : Addr) (kvs : List (List Key × V)), σ' = [some (.ref gr), some (.ref a), some (.ref d), none] ∧ Same H H' ∧ H' d = some (.dT kvs) ∧ Paired (WayE H') kvs (waysL n (makL n Ls) W) ∧ WaysOk n (makL n Ls) W (waysL n (makL n Ls) W)) (fun nx hnx => ?_) ?_
    · exact ⟨_, rfl, _, rfl, gr, a, n, fs, Ls, lv, ow, W, rfl, G, ha, hat, bW, fun d kvs H1 s1 nd hd pw wo => hnx _ _ ⟨d, kvs, rfl, s1, hd, pw, wo⟩⟩
    rintro σ1 H1 ⟨d, kvs, rfl, s1, hd, pw, wo⟩
    have kk := ways_keys pw
    refine seq_gen (fun σ' H' => ∃ (b : Addr) (M : List Int), σ' = [some (.ref gr), some (.ref a), some (.ref d), some (.ref b)] ∧ Same H1 H' ∧ H' b = some (.tup (M.map V.int)) ∧ LeastIn (waysL n (makL n Ls) W) M) (fun nx hnx => ?_) ?_
    · refine ⟨_, rfl, d, kvs, rfl, .inl hd, fun l bs hl ik => ?_⟩
      have tb := tups_of_keys ik kk
      have sl := Same.new (o := .lst (bs.map V.ref)) hl
      have lb := TupsAt.len tb
      refine ⟨l, bs, _, rfl, SqL.of upd_same, tb.same sl, fun z => ?_, fun b c hb hbc hc le => hnx _ _ ⟨b, c, rfl, sl, hbc, hc, le⟩⟩
      have h0 : W ∈ (waysL n (makL n Ls) W).map (·.1) := (wo.mem W).mpr .one
      rw [z] at lb
      rw [List.eq_nil_of_length_eq_zero lb.symm] at h0
      cases h0
    rintro σ2 H2 ⟨b, M, rfl, s2, hb, le⟩
    have pw2 := pairImp pw fun _ _ h => WayE.same s2 h
    obtain ⟨t, hv, ht⟩ := ways_val pw2 le.1
    refine ⟨_, rfl, _, rfl, _, rfl, d, _, rfl, by rw [← tkey_kV] at hb; exact hv ▸ DGet.t (k := tkey M) (s2 _ _ hd) hb, by show 2 ≤ sizeLine; decide, fun p hp => ?_⟩
    have s3 := Same.new (o := .tup [.ref b, .ref t]) hp
    exact q p b t M _ (Same.trans s1 (Same.trans s2 s3)) (Same.nn (Same.trans s1 s2) hp) upd_same (s3 _ _ hb) (s3 _ _ ht) le wo
/-! ### least, refused -/
def spWfR (K : PySem.W.Frag) (C CC CA : Addr) : Sp := fun vs H _ E => ∃ (gr : Addr) (x : V) (n : Nat) (fs : List Int) (Ls : List (List Int)) (lv : List Lv) (ow : List Addr) (c : Option (List V)), vs = [.ref gr, x] ∧ Grp C CC H gr n fs Ls lv ow ∧ Thing K H x c ∧ wsBZ c (n : Int) = false ∧ ∀ H', Same H H' → E (.ref CA) none H'
theorem ok_wfR {f f_is_worths f_Group_truths : Addr} {fd fd_is_worths fd_Group_truths : FuncData} {C CC CA : Addr} (F : Fun K "_ways_from" "_ways_from" sWf f fd) (B : Bl mg) (cl : Cls K C) (D_is_worths : Df K mg "is_worths" sIsWZ ["thing", "many"] f_is_worths fd_is_worths) (G_is_worths : FnOk P w K mg base CX0 2 f_is_worths fd_is_worths ["thing", "many"] (spIsWTZ K)) (M_Group_truths : MB P w K mg base C "truths" 1 ["self"] (spGt C CC) f_Group_truths fd_Group_truths) (O : OwnX K mg "NoAnswer" CA) : FnOk P w K mg base (L2.CX P w) 3 f fd ["group", "answer"] (spWfR K C CC CA) := by
  refine Fun.okX F scWf (fun vs H Q E h => ?_) (fun cdv A outer s H vs Q E hr h => ?_)
  · obtain ⟨gr, x, n, fs, Ls, lv, ow, c, rfl, _⟩ := h
    rfl
  · obtain ⟨gr, x, n, fs, Ls, lv, ow, c, rfl, G, tx, bad, q⟩ := h
    refine ⟨_, pss_cons (ps_if (pt_not (pt_val (pe_call G_is_worths hr rfl D_is_worths.g D_is_worths.F.kp D_is_worths.b .nil pass0 (pa_cons (pv 1) (pa_cons (pe_meth0 (pv 0) cl M_Group_truths.m M_Group_truths.g (hr.mono (by decide)) M_Group_truths.b .nil pass0) pa_nil))))) (pss_one (ps_raiseOwn O rfl (takes_of rfl rfl rfl rfl) rfl pe_str)) pss_nil) pss_never, ?_⟩
    show tSeq _ _ _ [some (.ref gr), some x, none, none, none, none, none, none, none, none, none, none] H
    obtain ⟨dx, mk, c0, pl0, la, ga, wa, ma, ds, gs, ws, ms, A0, _⟩ := G.at_
    refine ⟨_, rfl, _, rfl, gr, dx, _, rfl, A0.ob, rfl, gr, n, fs, Ls, lv, ow, rfl, G, x, (n : Int), c, rfl, tx, fun H1 s1 => ?_⟩
    rw [bad]
    exact ⟨false, rfl, iteT (q _ s1)⟩
def spLeR (K : PySem.W.Frag) (C CC CA : Addr) : Sp := spWfR K C CC CA
theorem ok_leR {f f__ways_from : Addr} {fd fd__ways_from : FuncData} {C CC CA : Addr} (F : Fun K "least" "least" sLe f fd) (D__ways_from : Df K mg "_ways_from" sWf ["group", "answer"] f__ways_from fd__ways_from) (G__ways_from : FnOk P w K mg base (L2.CX P w) 3 f__ways_from fd__ways_from ["group", "answer"] (spWfR K C CC CA)) : FnOk P w K mg base (L2.CX P w) 4 f fd ["group", "answer"] (spLeR K C CC CA) := by
  refine Fun.okX F scLe (fun vs H Q E h => ?_) (fun cdv A outer s H vs Q E hr h => ?_)
  · obtain ⟨gr, x, n, fs, Ls, lv, ow, c, rfl, _⟩ := h
    rfl
  · obtain ⟨gr, x, n, fs, Ls, lv, ow, c, rfl, G, tx, bad, q⟩ := h
    refine ⟨_, pss_cons (ps_set (i := 2) scLe.nd rfl (Or.inl rfl) (pe_call G__ways_from hr rfl D__ways_from.g D__ways_from.F.kp D__ways_from.b .nil (passes_call (takes_of rfl rfl rfl rfl) fun _ _ _ _ h => h) (pa_cons (pv 0) (pa_cons (pv 1) pa_nil)))) pss_never, ?_⟩
    exact ⟨_, rfl, _, rfl, gr, x, n, fs, Ls, lv, ow, c, rfl, G, tx, bad, q⟩
end
end Toy

-- part: KW3
namespace Toy
open PySem L2
/-! ### _law_based -/
section
variable {P : Program} {w : World} {K : PySem.W.Frag} {mg : Str → Option Value} {base : Heap} {C CC fI eM eB : Addr} {fdI : FuncData}
def gKb {α : Type} (us its mv ws : List α) : List α := us ++ ws
abbrev sBs : Stmt := s__law_based
abbrev nBs : List Str := ["draw", "many", "makers", "pool", "some", "letters", "k", "truth"]
theorem scBs : FnScope nBs ["draw", "many", "makers"] (defScope sBs) := ⟨rfl, rfl, rfl, by decide +kernel, rfl, by decide +kernel, by decide +kernel⟩
def tBs_1 (K : PySem.W.Frag) : TE := tBM K "list" rPopAt (tVar 3) (tCons (tCall (spNext K) [] E0 (tCons (tVar 0) (tCons (tCB (rLenK K) (tCons (tVar 3) tNil)) tNil))) tNil)
def tBs_2 (K : PySem.W.Frag) : TE := tOp (rIxL K) (tLst (tCons (tVar 7) (tCons (tUn (rU fun i => .int (-i)) (tVar 7)) tNil))) (tCall (spNext K) [] E0 (tCons (tVar 0) (tCons (tC (.int 2)) tNil)))
def spBs (K : PySem.W.Frag) (C CC : Addr) : Sp := fun vs H Q _ => ∃ (d sc ml : Addr) (n : Nat) (ns : List Int) (ms : List Addr) (Ls : List (List Int)), vs = [.ref d, .int (n : Int), .ref ml] ∧ 1 ≤ n ∧ n ≤ 12 ∧ DrA K sc ns H d ∧ ml ≠ d ∧ H ml = some (.lst (ms.map V.ref)) ∧ TupsAt H ms Ls ∧ (∀ L ∈ Ls, Trn n L) ∧ Ls.length ≤ 60 ∧
  ∀ (g : Addr) (fs : List Int) (lv : List Lv) (ow : List Addr) (H' : Hp), Ex d H H' → DrA K sc ns H' d → d ∉ ow → (∀ x ∈ ow, H x = none) → Grp C CC H' g n fs Ls lv ow → Q (.ref g) H'
theorem ok_bs {f f__law_next : Addr} {fd fd__law_next : FuncData} (F : Fun K "_law_based" "_law_based" sBs f fd) (B : Bl mg) (G : GrProg P w K mg base C CC fI fdI eM eB)
    (kb : ∃ (its mv : List Value), KBn K fdI psGI 3 ["base"] (fun us ws => gKb us its mv ws) (fun vs zs => gKb vs [.ref eM] [] zs)) (D__law_next : Df K mg "_law_next" sNext ["draw", "size"] f__law_next fd__law_next) (G__law_next : FnOk P w K mg base CX0 2 f__law_next fd__law_next ["draw", "size"] (spNext K)) : FnOk P w K mg base CX0 20 f fd ["draw", "many", "makers"] (spBs K C CC) := by
  obtain ⟨ds2, v2, b2⟩ := G.b2
  obtain ⟨its, mv, kb⟩ := kb
  refine F.ok scBs (fun vs H Q E h => ?_) (fun cdv A outer s H vs Q E hr h => ?_)
  · obtain ⟨d, sc, ml, n, ns, ms, Ls, rfl, _⟩ := h
    rfl
  · obtain ⟨d, sc, ml, n, ns, ms, Ls, rfl, n1, n12, hD, nmd, hml, tm, tr, l60, q⟩ := h
    have n4 : n ≤ 400 := by omega
    refine ⟨_, pss_cons (ps_set (i := 3) scBs.nd rfl (Or.inr rfl) (pe_listRg rfl (by rfl) B.list (prg_2 (by rfl) B.range pe_int (pe_op op_add (pv 1) pe_int))))
      (pss_cons (ps_setLc (i := 4) (own := [("k", 6)]) (g := gName 6) (tt := tYes) (te := tBs_1 K) rfl scBs.nd rfl rfl (sw_true rfl rfl rfl (by decide +kernel)) (pi_range1 rfl B.range (pa_cons (pe_call G__law_next (hr.mono (by decide)) rfl D__law_next.g D__law_next.F.kp D__law_next.b .nil pass0 (pa_cons (pv 0) (pa_cons (pe_op op_add (pv 1) pe_int) pa_nil))) pa_nil)) (blkOk_by (own := [("k", 6)]) (N := nBs) (sc := (defScope sBs)) (by decide +kernel)) (fun _ _ _ _ _ => pg_name (i := 6) scBs.nd rfl (Or.inl rfl)) (fun _ _ _ _ _ => pts_nil) (fun _ _ _ _ _ => pe_bm PySem.F.plainAttrs_list PySem.F.slot_list_pop PySem.F.type_list_pop mt_popAt (pv 3) (pa_cons (pe_call G__law_next (hr.mono (by decide)) rfl D__law_next.g D__law_next.F.kp D__law_next.b .nil pass0 (pa_cons (pv 0) (pa_cons (pe_callB call_len_seq (by rfl) B.len PySem.boot_len (pa_cons (pv 3) pa_nil)) pa_nil))) pa_nil)))
      (pss_cons (ps_setLc (i := 5) (own := [("truth", 7)]) (g := gName 7) (tt := tYes) (te := tBs_2 K) rfl scBs.nd rfl rfl (sw_true rfl rfl rfl (by decide +kernel)) (pi_list (pv 4)) (blkOk_by (own := [("truth", 7)]) (N := nBs) (sc := (defScope sBs)) (by decide +kernel)) (fun _ _ _ _ _ => pg_name (i := 7) scBs.nd rfl (Or.inl rfl)) (fun _ _ _ _ _ => pts_nil) (fun _ _ _ _ _ => pe_ix ix_list (pe_lst (pa_cons (pv 7) (pa_cons (pe_un un_neg (pv 7)) pa_nil))) (pe_call G__law_next (hr.mono (by decide)) rfl D__law_next.g D__law_next.F.kp D__law_next.b .nil pass0 (pa_cons (pv 0) (pa_cons pe_int pa_nil))) (fun _ _ => rfl)))
      (pss_one (ps_ret (pe_ifExp (pt_cmpR op_eq (pe_call G__law_next (hr.mono (by decide)) rfl D__law_next.g D__law_next.F.kp D__law_next.b .nil pass0 (pa_cons (pv 0) (pa_cons pe_int pa_nil))) pe_int (nomark _)) (pe_makeK G.mak G.GI hr rfl G.gC kb pass0 (pa_cons (pv 1) (pa_cons (pv 2) pa_nil)) (pk_cons (pv 5) pk_nil)) (pe_make G.mak G.GI hr rfl G.gC b2 v2 pass0 (pa_cons (pv 1) (pa_cons (pv 2) pa_nil)))))))), ?_⟩
    show tSeq _ _ _ [some (.ref d), some (.int (n : Int)), some (.ref ml), none, none, none, none, none] H
    have eZ : sizeLine = 16777216 := rfl
    refine seq_gen (fun σ' H' => ∃ pl : Addr, σ' = [some (.ref d), some (.int (n : Int)), some (.ref ml), some (.ref pl), none, none, none, none] ∧ Same H H' ∧ H pl = none ∧ H' pl = some (.lst ((up n).map V.int))) (fun nx hnx => ?_) ?_
    · walk_at "rd"
      refine ⟨_, rfl, _, _, rfl, rfl, 1, (n : Int) + 1, rfl, rfl, RgOk.of_le (by decide) (by omega) (by decide) (by omega), fun pl hpl => ?_⟩
      rw [up_rg n (by omega), Int.toNat_natCast]
      exact hnx _ _ ⟨pl, rfl, Same.new hpl, hpl, upd_same⟩
    rintro σ1 H1 ⟨pl, rfl, s1, npl, hpl⟩
    have E1 := Ex.same (d := d) s1
    have D1 := DrA.same s1 hD
    have npd : pl ≠ d := hD.nd npl
    refine seq_gen (fun σ' H' => ∃ (f2 : Addr) (L rest : List Int), σ' = [some (.ref d), some (.int (n : Int)), some (.ref ml), some (.ref pl), some (.ref f2), none, none, none] ∧ Ex d H H' ∧ DrA K sc ns H' d ∧ H' f2 = some (.lst (L.map V.int)) ∧ (L ++ rest).Perm (up n)) (fun nx hnx => ?_) ?_
    · refine ⟨_, rfl, _, rfl, _, _, rfl, rfl, d, (n : Int) + 1, sc, ns, rfl, by omega, D1, fun r H2 r0 r1 E2 D2 => ⟨r, rfl, by omega, by omega, fun D hD' => ?_⟩⟩
      have E12 := Ex.trans E1 E2
      have nD := none_back E12 D2 hD'
      have nDd := D2.nd hD'
      have hpl2 := E2 _ _ hpl npd
      have nDp : D ≠ pl := fun e => by rw [e, hpl2] at hD'; cases hD'
      refine lc_range (lo := 0) (n := r.toNat) (fun j Hj => Ex d H Hj ∧ DrA K sc ns Hj d ∧ ∃ fs rest : List Int, Hj D = some (.lst (fs.map V.int)) ∧ Hj pl = some (.lst (rest.map V.int)) ∧ fs.length = j ∧ (fs ++ rest).Perm (up n))
        ⟨Ex.up E12 nD, DrA.up hD D2 E12 nD, [], up n, upd_same, Same.new hD' _ _ hpl2, rfl, List.Perm.refl _⟩ ?_ ?_
      · rintro k Hj hk ⟨Ej, Dj, fs, rest, hDj, hpj, lf, pm⟩
        have lr : fs.length + rest.length = n := by
          have := pm.length_eq
          rw [List.length_append, up_len] at this
          exact this
        refine ⟨rfl, yesT ?_⟩
        show tBs_1 K [some (.ref d), some (.int (n : Int)), some (.ref ml), some (.ref pl), none, none, some (.int (0 + (k : Int))), none] Hj _
        unfold tBs_1
        refine ⟨_, rfl, .inl ⟨rfl, _, SqL.of hpj⟩, _, rfl, _, rfl, pl, _, rfl, .inl (SqL.of hpj), ?_⟩
        rw [List.length_map]
        refine ⟨d, (rest.length : Int), sc, ns, rfl, by omega, Dj, fun r H' r0' r1' E' D' => ?_⟩
        obtain ⟨z, rfl⟩ := Int.eq_ofNat_of_zero_le r0'
        have zl : z < rest.length := by omega
        have hp' := E' _ _ hpj npd
        have hd' := E' _ _ hDj nDd
        have gz : (rest.map V.int)[z]? = some (V.int rest[z]) := by rw [List.getElem?_map, List.getElem?_eq_getElem zl]; rfl
        refine ⟨pl, _, (z : Int), z, _, rfl, rfl, hp', by omega, by omega, seqIx (by rw [List.length_map]; exact zl), gz, fs.map V.int, ?_, by rw [List.length_map]; exact small1000 (by omega), ?_⟩
        · rw [upd_ne nDp]
          exact hd'
        have Ea := Ex.trans Ej E'
        have Eb := Ex.up (o := .lst ((rest.map V.int).eraseIdx z)) Ea npl
        have Db := DrA.up (o := .lst ((rest.map V.int).eraseIdx z)) hD D' Ea npl
        refine ⟨Ex.up Eb nD, DrA.up hD Db Eb nD, fs ++ [rest[z]], rest.eraseIdx z, by rw [upd_same, List.map_append]; rfl, by rw [upd_ne (Ne.symm nDp), upd_same, map_erase], by rw [List.length_append, lf]; rfl, ?_⟩
        rw [List.append_assoc]
        exact (List.Perm.append_left fs (erase_perm rest z _ (List.getElem?_eq_getElem zl))).trans pm
      · rintro H4 ⟨E4, D4, fs, rest, hD4, _, lf, pm⟩
        exact hnx _ _ ⟨D, fs, rest, rfl, E4, D4, hD4, pm⟩
    rintro σ H4 ⟨f2, L, rest, rfl, E4, D4, hf2, pm⟩
    have ndL : L.Nodup := (List.nodup_append.mp (pm.nodup_iff.mpr (up_nodup n))).1
    have inL : ∀ x ∈ L, 1 ≤ x ∧ x ≤ (n : Int) := fun x hx => up_mem.mp (pm.mem_iff.mp (List.mem_append_left _ hx))
    have absL : L.map absI = L := (List.map_congr_left fun x hx => absI_self (inL x hx).1).trans (List.map_id' L)
    have lL : L.length ≤ n := by
      have := pm.length_eq
      rw [List.length_append, up_len] at this
      omega
    refine seq_gen (fun σ' H' => ∃ (l : Addr) (fs : List Int), σ' = [some (.ref d), some (.int (n : Int)), some (.ref ml), some (.ref pl), some (.ref f2), some (.ref l), none, none] ∧ Ex d H H' ∧ DrA K sc ns H' d ∧ H l = none ∧ H' l = some (.lst (fs.map V.int)) ∧ (∀ p ∈ fs, Lt n p) ∧ (fs.map absI).Nodup) (fun nx hnx => ?_) ?_
    · refine ⟨_, rfl, f2, rfl, ⟨_, SqL.of hf2⟩, fun D hD' => ?_⟩
      have nD := none_back E4 D4 hD'
      have nDd := D4.nd hD'
      have nDf : f2 ≠ D := fun e => by rw [← e, hf2] at hD'; cases hD'
      have nfd : f2 ≠ d := by
        obtain ⟨_, D4'⟩ := D4
        intro e
        rw [e, D4'.dr] at hf2
        have e2 := HO.lst.inj (Option.some.inj hf2)
        cases L with
        | nil => cases e2
        | cons z l => cases (List.cons.inj e2).1
      refine lc_list (K := K) (a := f2) (xs := L.map V.int) (fun j Hj => Ex d H4 Hj ∧ Ex d H Hj ∧ DrA K sc ns Hj d ∧ ∃ gs : List Int, Hj D = some (.lst (gs.map V.int)) ∧ gs.length = j ∧ gs.map absI = (L.take j).map absI)
        ⟨Ex.new hD', Ex.up E4 nD, DrA.up hD D4 E4 nD, [], upd_same, rfl, rfl⟩ (fun j Hj _ ⟨e, _⟩ => SqL.of (e _ _ hf2 nfd)) ?_ ?_
      · rintro k x Hj hk ⟨Ek, Ej, Dj, gs, hDj, lg, ag⟩
        rw [List.getElem?_map] at hk
        cases ez : L[k]? with
        | none => rw [ez] at hk; cases hk
        | some v =>
        rw [ez] at hk
        cases hk
        have kl : k < L.length := (List.getElem?_eq_some_iff.mp ez).1
        refine ⟨rfl, yesT ?_⟩
        show tBs_2 K [some (.ref d), some (.int (n : Int)), some (.ref ml), some (.ref pl), some (.ref f2), none, none, some (.int v)] Hj _
        unfold tBs_2
        walk_at "rd"
        refine ⟨by show 2 ≤ sizeLine; decide, fun p hp => ?_⟩
        have sp1 : Same Hj (upd Hj p (.lst [V.int v, V.int (-v)])) := Same.new hp
        have hp1 : upd Hj p (.lst [V.int v, V.int (-v)]) p = some (.lst [V.int v, V.int (-v)]) := upd_same
        have npd := Dj.nd hp
        generalize upd Hj p (.lst [V.int v, V.int (-v)]) = Hk at *
        refine ⟨d, 2, sc, ns, rfl, by decide, DrA.same sp1 Dj, fun r Hm r0 r1' Em Dm => ?_⟩
        have pick : ∃ y : Int, atI [V.int v, V.int (-v)] r = some (.int y) ∧ absI y = absI v := by
          rcases at_two (a := V.int v) (b := V.int (-v)) r0 r1' with ⟨_, e⟩ | ⟨_, e⟩
          · exact ⟨_, e, rfl⟩
          · exact ⟨_, e, absI_neg v⟩
        obtain ⟨y, haty, hy⟩ := pick
        refine p_ix (SqL.of (Em _ _ hp1 npd)) haty ?_
        have Ejm : Ex d Hj Hm := Ex.trans (Ex.same sp1) Em
        refine ⟨gs.map V.int, Ejm _ _ hDj nDd, by rw [List.length_map]; exact small1000 (by omega), Ex.up (Ex.trans Ek Ejm) hD', Ex.up (Ex.trans Ej Ejm) nD, DrA.up hD Dm (Ex.trans Ej Ejm) nD, gs ++ [y], by rw [upd_same, List.map_append]; rfl, by rw [List.length_append, lg]; rfl, ?_⟩
        rw [List.map_append, ag, List.take_add_one, ez]
        simp [hy]
      · rintro H5 ⟨_, E5, D5, gs, hD5, lg, ag⟩
        rw [List.length_map, List.take_length, absL] at ag
        exact hnx _ _ ⟨D, gs, rfl, E5, D5, nD, hD5, fun p hp => inL _ (by rw [← ag]; exact List.mem_map.mpr ⟨p, hp, rfl⟩), by rw [ag]; exact ndL⟩
    rintro σ5 H5 ⟨l, fs, rfl, E5, D5, nl, hl, ltf, ndf⟩
    refine ⟨_, rfl, d, 2, sc, ns, rfl, by decide, D5, fun r H6 r0 r2 E6 D6 => ?_⟩
    have E06 := Ex.trans E5 E6
    have hml6 := E06 _ _ hml nmd
    have tm6 := tups_ex hD E06 tm
    have hl6 := E6 _ _ hl (hD.nd nl)
    have fin : ∀ (H7 : Hp) (g : Addr) (fs : List Int) (lv : List Lv) (ow : List Addr), Same H6 H7 → (∀ x ∈ ow, H6 x = none) → Grp C CC H7 g n fs Ls lv ow → Q (.ref g) H7 := fun H7 g fs lv ow s7 no G7 =>
      q g fs lv ow H7 (Ex.trans E06 (Ex.same s7)) (DrA.same s7 D6) (fun z => by
        have := no d z
        obtain ⟨_, D6'⟩ := D6
        rw [D6'.dr] at this
        cases this) (fun x hx => none_back E06 D6 (no x hx)) G7
    refine ⟨rfl, decide (V.int r = V.int 0), rfl, ?_⟩
    by_cases c : V.int r = V.int 0
    · rw [decide_eq_true c]
      refine iteT ⟨_, rfl, _, rfl, _, rfl, ⟨rfl, rfl, fun g dx hx hdx ne => ?_⟩⟩
      change spGI K C CC [V.ref g, V.int (n : Int), V.ref ml, V.ref l] _ _ _
      exact mk_groupR (bs := ms) (Ls := Ls) (fs := fs) (.inl (SqL.of hml6)) tm6 tr n1 n12 l60 (.inl (SqL.of hl6)) ltf ndf hx hdx ne fun lv ow H7 s7 no7 G7 => ⟨rfl, fin H7 g fs lv ow s7 no7 G7⟩
    · rw [decide_eq_false c]
      refine iteF ⟨_, rfl, _, rfl, fun g dx hx hdx ne => ?_⟩
      exact mk_group (bs := ms) (Ls := Ls) (fs := []) (.inl (SqL.of hml6)) tm6 tr n1 n12 l60 (.inr (sq0 G.tB)) (fun l h => (nomatch h)) List.nodup_nil (fun g lv ow H7 s7 no7 G7 => fin H7 g [] lv ow s7 no7 G7) hx hdx ne
end
end Toy

-- part: EE1
namespace L2
open PySem PySem.Spec PySem.Calls PyProof.Rows
/-- xs == [], whatever stands in xs -/
def rEqE (K : PySem.W.Frag) : R2 := fun x y H Q => ∃ a b xs, x = .ref a ∧ y = .ref b ∧ SqL K H a xs ∧ SqL K H b [] ∧ Q (.bl xs.isEmpty) H
theorem op_eqE {X : Cx} (hu : X.A.units + 64 < cLine) : OpR X (compareOp .Eq) (rEqE X.K) := by
  intro pins s σ H x y v u Q I rx ry ⟨a, b, xs, ex, ey, ha, hb, q⟩
  subst ex ey
  cases xs with
  | nil => exact op_eqD hu pins s σ H _ _ v u Q I rx ry ⟨.list [], .list [], .lst ha .nil, .lst hb .nil, by decide, by decide, q⟩
  | cons z zs =>
    cases rx
    cases ry
    obtain ⟨its, rv, pl, _⟩ := I.list ha
    obtain ⟨its2, rv2, pl2, _⟩ := I.list hb
    have e2 : its2 = [] := by cases rv2; rfl
    subst e2
    have n1 : its.length = zs.length + 1 := by rw [← rv.length]; rfl
    have big : (its.toArray.size != ([] : List Value).toArray.size) = true := by
      rw [List.size_toArray, n1]
      rfl
    exact SeqAt.RcAt.lists_lengths pl.isList pl2.isList big (by omega) X.prog X.w X.xe _ ⟨.bl false, H, I, rfl, q⟩
end L2

-- part: KW4
namespace Toy
open PySem L2
/-! ### _law_kin, _law_answer -/
section
variable {P : Program} {w : World} {K : PySem.W.Frag} {mg : Str → Option Value} {base : Heap}
abbrev sKi : Stmt := s__law_kin
abbrev nKi : List Str := ["makers", "bits", "found", "line", "here", "maker", "other"]
theorem scKi : FnScope nKi ["makers", "bits"] (defScope sKi) := ⟨rfl, rfl, rfl, by decide +kernel, rfl, by decide +kernel, by decide +kernel⟩

def spKi (K : PySem.W.Frag) : Sp := fun vs H Q _ => ∃ (ml a : Addr) (n : Nat) (ms : List Addr) (Ls : List (List Int)) (W : List Int), vs = [.ref ml, .ref a] ∧ 1 ≤ n ∧ n ≤ 12 ∧ H ml = some (.lst (ms.map V.ref)) ∧ TupsAt H ms Ls ∧ (∀ L ∈ Ls, Trn n L) ∧ Ls.length ≤ 60 ∧ H a = some (.tup (W.map V.int)) ∧ Bits n W ∧
  ∀ (l : Addr) (bs : List Addr) (Ws : List (List Int)) (H' : Hp), Same H H' → H l = none → H' l = some (.lst (bs.map V.ref)) → TupsAt H' bs Ws → SrtN Ws → (∀ x, x ∈ Ws ↔ KinR n Ls W x) → Q (.ref l) H'
theorem ok_ki {f f__law_led_answer : Addr} {fd fd__law_led_answer : FuncData} (F : Fun K "_law_kin" "_law_kin" sKi f fd) (B : Bl mg) (D__law_led_answer : Df K mg "_law_led_answer" sLwZ ["turn", "bits"] f__law_led_answer fd__law_led_answer) (G__law_led_answer : FnOk P w K mg base CX0 2 f__law_led_answer fd__law_led_answer ["turn", "bits"] (spLwZ K)) : FnOk P w K mg base CX0 3 f fd ["makers", "bits"] (spKi K) := by
  refine F.ok scKi (fun vs H Q E h => ?_) (fun cdv A outer s H vs Q E hr h => ?_)
  · obtain ⟨ml, a, n, ms, Ls, W, rfl, _⟩ := h
    rfl
  · obtain ⟨ml, a, n, ms, Ms, W, rfl, n1, n12, hml, tm, okM, l60, hat, bW, q⟩ := h
    have hu := hu_of hr
    refine ⟨_, pss_cons (ps_set (i := 2) scKi.nd rfl (Or.inl rfl) (pe_dispT (Nat.lt_of_succ_lt hu) (pv 1) pe_bl))
      (pss_cons (ps_set (i := 3) scKi.nd rfl (Or.inl rfl) (pe_lst (pa_cons (pv 1) pa_nil)))
      (pss_cons (ps_while PassesOwn.never (pt_cmpR (op_neE hr.units) (pv 3) (pe_lst pa_nil) (nomark _)) (pss_cons (ps_set (i := 4) scKi.nd rfl (Or.inl rfl) (pe_bm0 PySem.F.plainAttrs_list PySem.F.slot_list_pop PySem.F.type_list_pop mt_pop (pv 3)))
      (pss_one (ps_for PassesOwn.never rfl (pi_list (pv 0)) (pg_name (i := 5) scKi.nd rfl (Or.inl rfl)) (pss_cons (ps_set (i := 6) scKi.nd rfl (Or.inl rfl) (pe_call G__law_led_answer hr rfl D__law_led_answer.g D__law_led_answer.F.kp D__law_led_answer.b .nil pass0 (pa_cons (pv 5) (pa_cons (pv 4) pa_nil))))
      (pss_one (ps_if (pt_cmp (pc_dnotin hu (pv 6) (pv 2))) (pss_cons (ps_dput hu (pv 2) (pv 6) pe_bl rfl)
      (pss_one (ps_expr (pe_bm PySem.F.plainAttrs_list PySem.F.slot_list_append PySem.F.type_list_append mt_append (pv 3) (pa_cons (pv 6) pa_nil))))) pss_nil)))))))
      (pss_one (ps_ret (pe_callB (cr_sortedTD rfl hr.units) (by rfl) B.sorted (by decide +kernel) (pa_cons (pv 2) pa_nil)))))), ?_⟩
    show tSeq _ _ _ [some (.ref ml), some (.ref a), none, none, none, none, none] H
    have eZ : sizeLine = 16777216 := rfl
    have lms := TupsAt.len tm
    -- found
    refine seq_gen (fun σ' H' => ∃ (gd : Addr) (kvs : List (List Key × V)), σ' = [some (.ref ml), some (.ref a), some (.ref gd), none, none, none, none] ∧ Same H H' ∧ H gd = none ∧ H' gd = some (.dT kvs) ∧ kvs.map (·.1) = ((wIt n Ms W 0).1.map (·.1)).map tkey) (fun nx hnx => ?_) ?_
    · intro p hp
      have sp := Same.new (o := .dT []) hp
      have hp1 : upd H p (.dT []) p = some (.dT []) := upd_same
      generalize upd H p (.dT []) = H3 at *
      exact ⟨_, rfl, hp1, tkey W, a, rfl, by rw [tkey_kV]; exact sp _ _ hat, hnx _ _ ⟨p, _, rfl, Same.upN sp hp, hp, upd_same, rfl⟩⟩
    rintro σ3 H3 ⟨gd, kvs0, rfl, s3, ngd, hgd, pw0⟩
    -- line
    refine seq_gen (fun σ' H' => ∃ (wt : Addr), σ' = [some (.ref ml), some (.ref a), some (.ref gd), some (.ref wt), none, none, none] ∧ Same H H' ∧ H wt = none ∧ wt ≠ gd ∧ H' gd = some (.dT kvs0) ∧ H' wt = some (.lst [.ref a])) (fun nx hnx => ?_) ?_
    · refine ⟨_, rfl, by show 1 ≤ sizeLine; decide, fun wt hwt => ?_⟩
      have sw := Same.new (o := .lst [V.ref a]) hwt
      exact hnx _ _ ⟨wt, rfl, Same.trans s3 sw, Same.nn s3 hwt, (fun z => by rw [z, hgd] at hwt; cases hwt), sw _ _ hgd, upd_same⟩
    rintro σ4 H4 ⟨wt, rfl, s4, nwt, nwg, hgd4, hwt4⟩
    let Pv : St → Hp → Prop := fun σ' H' => ∃ (l4 l5 l6 : Option V) (k : Nat) (kvs : List (List Key × V)) (bs : List Addr), σ' = [some (.ref ml), some (.ref a), some (.ref gd), some (.ref wt), l4, l5, l6] ∧ Same H H' ∧ H' gd = some (.dT kvs) ∧ kvs.map (·.1) = ((wIt n Ms W k).1.map (·.1)).map tkey ∧ H' wt = some (.lst (bs.map V.ref)) ∧ TupsAt H' bs (wIt n Ms W k).2
    have lenK : ∀ (kvs : List (List Key × V)) (fs : List (List Int × List Int)), kvs.map (·.1) = (fs.map (·.1)).map tkey → kvs.length = fs.length := fun kvs fs h => by
      have := congrArg List.length h
      rw [List.length_map, List.length_map, List.length_map] at this
      exact this
    refine seq_gen (fun σ' H' => ∃ k, (wIt n Ms W k).2 = [] ∧ ∃ (l4 l5 l6 : Option V) (kvs : List (List Key × V)), σ' = [some (.ref ml), some (.ref a), some (.ref gd), some (.ref wt), l4, l5, l6] ∧ Same H H' ∧ H' gd = some (.dT kvs) ∧ kvs.map (·.1) = ((wIt n Ms W k).1.map (·.1)).map tkey) (fun nx hnx => ?_) ?_
    · refine while_by (Pv := Pv) (μ := fun _ H' => 2 * (2 ^ n - lenDTz H' gd) + lenLK H' wt) ⟨none, none, none, 0, kvs0, [a], rfl, s4, hgd4, pw0, hwt4, .cons (s4 _ _ hat) .nil⟩ ?_ ?_
      · rintro σ H5 ⟨l4, l5, l6, k, kvs, bs, rfl, s5, hg5, pw5, hw5, tb5⟩
        obtain ⟨I5, c5⟩ := wit_ok okM bW k
        have few5 := I5.few bW
        generalize est : wIt n Ms W k = st at *
        have lbs := TupsAt.len tb5
        have lkv := lenK _ _ pw5
        have m5 : 2 * (2 ^ n - lenDTz H5 gd) + lenLK H5 wt = 2 * (2 ^ n - st.1.length) + st.2.length := by
          unfold lenDTz lenLK
          rw [hg5, hw5]
          show 2 * (2 ^ n - kvs.length) + (bs.map V.ref).length = _
          rw [lkv, List.length_map, lbs]
        rw [m5]
        refine ⟨_, rfl, Nat.zero_le _, fun p0 hp0 => ?_⟩
        have sp0 := Same.new (o := .lst []) hp0
        have hp0' : upd H5 p0 (.lst []) p0 = some (.lst []) := upd_same
        have hg6 := sp0 _ _ hg5
        have hw6 := sp0 _ _ hw5
        have tb6 := tb5.same sp0
        have s6 := Same.trans s5 sp0
        generalize upd H5 p0 (.lst []) = H6 at *
        rcases List.eq_nil_or_concat bs with rfl | ⟨bs0, b0, rfl⟩
        · have e2 : st.2 = [] := List.eq_nil_of_length_eq_zero (by rw [← lbs]; rfl)
          exact ⟨wt, p0, _, rfl, rfl, SqL.of hw6, SqL.of hp0', false, rfl, iteF (hnx _ _ ⟨k, by rw [est]; exact e2, l4, l5, l6, kvs, rfl, s6, hg6, by rw [est]; exact pw5⟩)⟩
        rw [List.concat_eq_append] at *
        obtain ⟨ls0, s, e2⟩ : ∃ ls0 s, st.2 = ls0 ++ [s] := by
          rcases List.eq_nil_or_concat st.2 with e | ⟨l, s, e⟩
          · rw [e, List.length_append] at lbs
            simp at lbs
          · exact ⟨l, s, by rw [e, List.concat_eq_append]⟩
        have est2 : wStep n Ms st = Ms.foldl (wPut n s) (st.1, ls0) := by
          unfold wStep
          rw [e2, List.getLast?_concat, List.dropLast_concat]
        rw [e2] at tb6
        obtain ⟨tb0, hb0⟩ := pairUnsnoc tb6
        have sk : s ∈ st.1.map (·.1) := I5.lin s (by rw [e2]; exact List.mem_append_right _ List.mem_cons_self)
        have bS : Bits n s := by
          obtain ⟨p, hp, e⟩ := List.mem_map.mp sk
          rw [← e]
          exact (I5.gen p hp).2.2.bits bW
        refine ⟨wt, p0, _, rfl, rfl, SqL.of hw6, SqL.of hp0', true, by rw [List.map_append]; cases bs0 <;> rfl, iteT ?_⟩
        -- here
        refine seq_gen (fun σ' H' => σ' = [some (.ref ml), some (.ref a), some (.ref gd), some (.ref wt), some (.ref b0), l5, l6] ∧ H' = upd H6 wt (.lst (bs0.map V.ref))) (fun nx2 hnx2 => ?_) ?_
        · refine ⟨_, rfl, .inl ⟨rfl, _, SqL.of hw6⟩, wt, _, .ref b0, rfl, rfl, hw6, ?_, ?_⟩
          · rw [List.map_append, List.length_append]
            simp
          · rw [List.map_append, List.map_singleton, List.dropLast_concat]
            exact hnx2 _ _ ⟨rfl, rfl⟩
        rintro σ7 H7' ⟨rfl, rfl⟩
        have s7 : Same H (upd H6 wt (.lst (bs0.map V.ref))) := Same.upN s6 nwt
        have hg7 : upd H6 wt (.lst (bs0.map V.ref)) gd = some (.dT kvs) := by rw [upd_ne (Ne.symm nwg)]; exact hg6
        have hw7 : upd H6 wt (.lst (bs0.map V.ref)) wt = some (.lst (bs0.map V.ref)) := upd_same
        have tb7 : TupsAt (upd H6 wt (.lst (bs0.map V.ref))) bs0 ls0 := TupsAt.updN hw6 (fun ys z => by cases z) tb0
        have hb7 : upd H6 wt (.lst (bs0.map V.ref)) b0 = some (.tup (s.map V.int)) := by rw [upd_ne (fun z => by rw [z, hw6] at hb0; cases hb0)]; exact hb0
        generalize upd H6 wt (.lst (bs0.map V.ref)) = H7 at *
        have I0 : WInv n Ms W (st.1, ls0) := ⟨I5.nd, I5.gen, I5.one, fun x h => I5.lin x (by rw [e2]; exact List.mem_append_left _ h), by have := I5.le; rw [e2, List.length_append] at this; show ls0.length ≤ st.1.length; omega⟩
        refine ⟨_, rfl, ml, rfl, ⟨_, SqL.of (s7 _ _ hml)⟩, for_list (K := K) (a := ml) (xs := ms.map V.ref) (fun m σ' H' => ∃ (l5 l6 : Option V) (kvs : List (List Key × V)) (bs : List Addr), σ' = [some (.ref ml), some (.ref a), some (.ref gd), some (.ref wt), some (.ref b0), l5, l6] ∧ Same H H' ∧ H' b0 = some (.tup (s.map V.int)) ∧ H' gd = some (.dT kvs) ∧ kvs.map (·.1) = (((Ms.take m).foldl (wPut n s) (st.1, ls0)).1.map (·.1)).map tkey ∧ H' wt = some (.lst (bs.map V.ref)) ∧ TupsAt H' bs ((Ms.take m).foldl (wPut n s) (st.1, ls0)).2)
          ⟨l5, l6, kvs, bs0, rfl, s7, hb7, hg7, pw5, hw7, tb7⟩ (fun j σ' H' _ ⟨_, _, _, _, _, e, _⟩ => SqL.of (e _ _ hml)) ?_ ?_⟩
        · rintro m y σ' H8 hm ⟨l5, l6, kvs8, bs8, rfl, s8, hb8, hg8, pw8, hw8, tb8⟩
          rw [List.getElem?_map] at hm
          obtain ⟨mb, hmb, rfl⟩ := Option.map_eq_some_iff.mp hm
          obtain ⟨L, hL, hmL⟩ := TupsAt.get (TupsAt.same s8 tm) hmb
          have Lm := List.mem_of_getElem? hL
          have tL := okM L Lm
          obtain ⟨I8, up8, _⟩ := I0.fold okM bW (s := s) (Ms := Ms.take m) (fun L h => List.mem_of_mem_take h) sk
          have sk8 := up8 s sk
          have tk : (Ms.take (m + 1)).foldl (wPut n s) (st.1, ls0) = wPut n s ((Ms.take m).foldl (wPut n s) (st.1, ls0)) L := by
            rw [List.take_add_one, hL, List.foldl_append]
            rfl
          rw [tk]
          have few8 := I8.few bW
          generalize (Ms.take m).foldl (wPut n s) (st.1, ls0) = st8 at *
          show tSeq _ _ _ [some (.ref ml), some (.ref a), some (.ref gd), some (.ref wt), some (.ref b0), some (.ref mb), l6] H8
          refine seq_gen (fun σ' H' => ∃ c : Addr, σ' = [some (.ref ml), some (.ref a), some (.ref gd), some (.ref wt), some (.ref b0), some (.ref mb), some (.ref c)] ∧ Same H8 H' ∧ H' c = some (.tup ((ledA n L s).map V.int))) (fun nx2 hnx2 => ?_) ?_
          · exact ⟨_, rfl, _, rfl, mb, b0, n, L, s, rfl, SqT.of hmL, tL, n1, by omega, SqT.of hb8, bS.1, bS.2, fun c H9 s9 hc => hnx2 _ _ ⟨c, rfl, s9, hc⟩⟩
          rintro σ9 H9 ⟨c, rfl, s9, hc9⟩
          have hg9 := s9 _ _ hg8
          have hw9 := s9 _ _ hw8
          have tb9 := tb8.same s9
          have vk := val_keys tkey_inj pw8 (ledA n L s)
          refine ⟨_, rfl, _, rfl, gd, _, rfl, DGet.t (k := tkey (ledA n L s)) hg9 (by rw [tkey_kV]; exact hc9), _, rfl, ?_⟩
          unfold wPut
          by_cases cc : ledA n L s ∈ st8.1.map (·.1)
          · have vk2 : (valV kvs8 (tkey (ledA n L s))).isSome = true := by rw [vk]; exact (show ∀ (i : Decidable (ledA n L s ∈ st8.1.map (·.1))), @decide _ i = true from fun i => @decide_eq_true _ i cc) _
            rw [if_pos cc, vk2]
            exact iteF ⟨_, _, kvs8, bs8, rfl, Same.trans s8 s9, s9 _ _ hb8, hg9, pw8, hw9, tb9⟩
          · have vk2 : (valV kvs8 (tkey (ledA n L s))).isSome = false := by rw [vk]; exact (show ∀ (i : Decidable (ledA n L s ∈ st8.1.map (·.1))), @decide _ i = false from fun i => @decide_eq_false _ i cc) _
            rw [if_neg cc, vk2]
            have hvn : valV kvs8 (tkey (ledA n L s)) = none := by
              cases h : valV kvs8 (tkey (ledA n L s)) with
              | none => rfl
              | some z => rw [h] at vk2; cases vk2
            have lk8 := lenK _ _ pw8
            have p12 : 2 ^ n ≤ 4096 := Nat.pow_le_pow_right (by decide) n12
            refine iteT ⟨_, rfl, _, rfl, gd, _, rfl, DPut.t (k := tkey (ledA n L s)) hg9 (by rw [tkey_kV]; exact hc9) (by omega), ?_⟩
            rw [putK_new _ hvn]
            have s8_9 := Same.trans s8 s9
            have ne1 : ∀ {x : Addr} {ys : List V}, H9 x = some (.tup ys) → x ≠ gd := fun {x ys} h z => by rw [z, hg9] at h; cases h
            have s11 : Same H (upd H9 gd (.dT (kvs8 ++ [(tkey (ledA n L s), .bl true)]))) := Same.upN s8_9 ngd
            have hg11 : upd H9 gd (.dT (kvs8 ++ [(tkey (ledA n L s), .bl true)])) gd = some (.dT (kvs8 ++ [(tkey (ledA n L s), .bl true)])) := upd_same
            have hw11 : upd H9 gd (.dT (kvs8 ++ [(tkey (ledA n L s), .bl true)])) wt = some (.lst (bs8.map V.ref)) := by rw [upd_ne nwg]; exact hw9
            have keep : ∀ {x : Addr} {ys : List V}, H9 x = some (.tup ys) → upd H9 gd (.dT (kvs8 ++ [(tkey (ledA n L s), .bl true)])) x = some (.tup ys) := fun {x ys} h => by rw [upd_ne (ne1 h)]; exact h
            have tb11 := TupsAt.updN hg9 (o' := .dT (kvs8 ++ [(tkey (ledA n L s), V.bl true)])) (fun ys z => by cases z) tb9
            have hc11 := keep hc9
            have hb11 := keep (s9 _ _ hb8)
            have lb8 := TupsAt.len tb8
            have kp : (kvs8 ++ [(tkey (ledA n L s), V.bl true)]).map (·.1) = ((st8.1 ++ [(ledA n L s, joined (wayOf st8.1 s) L)]).map (·.1)).map tkey := by
              rw [List.map_append, List.map_append, List.map_append, pw8]
              rfl
            generalize upd H9 gd (.dT (kvs8 ++ [(tkey (ledA n L s), .bl true)])) = H11 at *
            refine ⟨_, rfl, .inl ⟨rfl, _, SqL.of hw11⟩, _, rfl, wt, _, _, rfl, rfl, hw11, by rw [List.length_map]; have := I8.le; omega, ?_⟩
            have ne2 : ∀ {x : Addr} {ys : List V}, H11 x = some (.tup ys) → x ≠ wt := fun {x ys} h z => by rw [z, hw11] at h; cases h
            exact ⟨_, _, _, bs8 ++ [c], rfl, Same.upN s11 nwt, by rw [upd_ne (ne2 hb11)]; exact hb11, by rw [upd_ne (Ne.symm nwg)]; exact hg11, kp, by rw [upd_same, List.map_append]; rfl, pairSnoc (TupsAt.updN hw11 (fun ys z => by cases z) tb11) (by rw [upd_ne (ne2 hc11)]; exact hc11)⟩
        · rintro σ' H8 ⟨l5, l6, kvs8, bs8, rfl, s8, hb8, hg8, pw8, hw8, tb8⟩
          rw [List.length_map, lms, List.take_length] at pw8 tb8
          have f8 := I0.fold okM bW (s := s) (Ms := Ms) (fun L h => h) sk
          rw [← est2] at pw8 tb8 f8
          have few8 := f8.1.few bW
          have e4 := f8.2.2.2.1
          have e5 := f8.2.2.2.2.1
          refine ⟨⟨_, l5, l6, k + 1, kvs8, bs8, rfl, s8, hg8, ?_, hw8, ?_⟩, ?_⟩
          · show _ = ((wStep n Ms (wIt n Ms W k)).1.map (·.1)).map tkey
            rw [est]
            exact pw8
          · show TupsAt _ _ (wStep n Ms (wIt n Ms W k)).2
            rw [est]
            exact tb8
          · have a1 : lenDTz H8 gd = (wStep n Ms st).1.length := by unfold lenDTz; rw [hg8]; exact lenK _ _ pw8
            have a2 : lenLK H8 wt = (wStep n Ms st).2.length := by unfold lenLK; rw [hw8]; show (bs8.map V.ref).length = _; rw [List.length_map, TupsAt.len tb8]
            show 2 * (2 ^ n - lenDTz H8 gd) + lenLK H8 wt < _
            rw [a1, a2, e2, List.length_append]
            have e4' : 2 * (wStep n Ms st).1.length = 2 * st.1.length + 2 * ((wStep n Ms st).2.length - ls0.length) := e4
            have e5' : ls0.length ≤ (wStep n Ms st).2.length := e5
            simp only [List.length_cons, List.length_nil]
            omega
      · intro σ H Q Q' hq h
        obtain ⟨v, hv, hz, h⟩ := h
        refine ⟨v, hv, hz, fun p hp => ?_⟩
        obtain ⟨a, b, xs, e1, e2, s1, s2, k, e, h⟩ := h p hp
        exact ⟨a, b, xs, e1, e2, s1, s2, k, e, hq _ _ h⟩
    rintro σ5 H5 ⟨k, e2, l4, l5, l6, kvs, rfl, s5, hg5, pw5⟩
    have ok := wIt_ways okM bW e2
    refine ⟨_, rfl, gd, kvs, _, rfl, .inl hg5, pw5, fun bs tb bs2 p pm rise hp => ?_⟩
    have mm : ∀ b ∈ bs2, H5 b = some (.tup ((ctOf H5 b).map V.int)) := fun b hb => TupsAt.mem tb b (pm.mem_iff.mp hb)
    have sp := Same.new (o := .lst (bs2.map V.ref)) hp
    have pm2 : (bs2.map (ctOf H5)).Perm ((wIt n Ms W k).1.map (·.1)) := by
      have := pm.map (ctOf H5)
      rw [TupsAt.ct tb] at this
      exact this
    exact q p bs2 (bs2.map (ctOf H5)) _ (Same.trans s5 sp) (Same.nn s5 hp) upd_same (TupsAt.same sp (TupsAt.of_mem mm)) ⟨pm2.nodup_iff.mpr ok.nd, List.pairwise_map.mpr rise⟩ (fun x => pm2.mem_iff.trans (ok.mem x))
abbrev sLan : Stmt := s__law_answer
abbrev nLan : List Str := ["draw", "many", "k"]
theorem scLan : FnScope nLan ["draw", "many"] (defScope sLan) := ⟨rfl, rfl, rfl, by decide +kernel, rfl, by decide +kernel, by decide +kernel⟩
def tLan_1 (K : PySem.W.Frag) : TE := tCall (spNext K) [] E0 (tCons (tVar 0) (tCons (tC (.int 2)) tNil))
def spLan (K : PySem.W.Frag) : Sp := fun vs H Q _ => ∃ (d sc : Addr) (n : Nat) (ns : List Int), vs = [.ref d, .int (n : Int)] ∧ 1 ≤ n ∧ n ≤ 400 ∧ DrA K sc ns H d ∧
  ∀ (l : Addr) (W : List Int) (H' : Hp), Ex d H H' → DrA K sc ns H' d → H l = none → H' l = some (.tup (W.map V.int)) → Bits n W → Q (.ref l) H'
theorem ok_lan {f f__law_next : Addr} {fd fd__law_next : FuncData} (F : Fun K "_law_answer" "_law_answer" sLan f fd) (B : Bl mg) (D__law_next : Df K mg "_law_next" sNext ["draw", "size"] f__law_next fd__law_next) (G__law_next : FnOk P w K mg base CX0 2 f__law_next fd__law_next ["draw", "size"] (spNext K)) : FnOk P w K mg base CX0 3 f fd ["draw", "many"] (spLan K) := by
  refine F.ok scLan (fun vs H Q E h => ?_) (fun cdv A outer s H vs Q E hr h => ?_)
  · obtain ⟨d, sc, n, ns, rfl, _⟩ := h
    rfl
  · obtain ⟨d, sc, n, ns, rfl, n1, n4, D0, q⟩ := h
    refine ⟨_, pss_one (ps_ret (pe_callTy call_tuple_of (by rfl) B.tuple (by decide +kernel) (pa_cons (pe_lc (own := [("k", 2)]) (g := gName 2) (tt := tYes) (te := tLan_1 K) rfl scLan.nd (pi_range1 rfl B.range (pa_cons (pv 1) pa_nil)) (blkOk_by (own := [("k", 2)]) (N := nLan) (sc := (defScope sLan)) (by decide +kernel)) (fun _ _ _ _ _ => pg_name (i := 2) scLan.nd rfl (Or.inl rfl)) (fun _ _ _ _ _ => pts_nil) (fun _ _ _ _ _ => pe_call G__law_next hr rfl D__law_next.g D__law_next.F.kp D__law_next.b .nil pass0 (pa_cons (pv 0) (pa_cons pe_int pa_nil)))) pa_nil))), ?_⟩
    show tRet _ _ [some (.ref d), some (.int (n : Int)), none] H
    refine ⟨_, rfl, (n : Int), rfl, by omega, by omega, fun D hD => ?_⟩
    have E0' := Ex.refl d H
    rw [Int.toNat_natCast]
    have nDd := D0.nd hD
    refine lc_range (lo := 0) (n := n) (fun j Hj => Ex d H Hj ∧ DrA K sc ns Hj d ∧ ∃ W : List Int, Hj D = some (.lst (W.map V.int)) ∧ W.length = j ∧ ∀ x ∈ W, x = 0 ∨ x = 1) ⟨Ex.up E0' hD, DrA.up D0 D0 E0' hD, [], upd_same, rfl, fun x h => (nomatch h)⟩ ?_ ?_
    · rintro k Hj hk ⟨Ej, Dj, W, hDj, lW, hW⟩
      refine ⟨rfl, yesT ⟨_, rfl, d, 2, sc, ns, rfl, by decide, Dj, fun r Hm r0 r2 Em Dm => ?_⟩⟩
      refine ⟨W.map V.int, Em _ _ hDj nDd, by rw [List.length_map]; exact small1000 (by omega), Ex.up (Ex.trans Ej Em) hD, DrA.up D0 Dm (Ex.trans Ej Em) hD, W ++ [r], by rw [upd_same, List.map_append]; rfl, by rw [List.length_append, lW]; rfl, fun x hx => ?_⟩
      rcases List.mem_append.mp hx with h | h
      · exact hW x h
      · rw [List.mem_singleton.mp h]
        omega
    · rintro H5 ⟨E5, D5, W, hD5, lW, hW⟩
      refine ⟨D, _, rfl, .inl ⟨SqL.of hD5, fun c hc => ?_⟩⟩
      exact q c W _ (Ex.trans E5 (Ex.new hc)) (DrA.same (Same.new hc) D5) (none_back E5 D5 hc) upd_same ⟨lW, hW⟩
end
end Toy

-- part: MS1
/-! text * number: some text -/
namespace L2
open PySem PySem.Spec PySem.Calls PyProof.Rows
theorem rep_size {α : Type} (a : Array α) : ∀ (m : Nat) (b : Array α), ((List.replicate m a).foldl (fun x1 x2 => x1 ++ x2) b).size = b.size + m * a.size
  | 0, b => by simp
  | m + 1, b => by
    rw [List.replicate_succ, List.foldl_cons, rep_size a m, Array.size_append, Nat.succ_mul]
    omega
def rMulS : R2 := fun x y H Q => ∃ (z : Str) (k : Int), x = .str z ∧ y = .int k ∧ z.length ≤ 100 ∧ 0 ≤ k ∧ k ≤ 1000 ∧ ∀ r : Str, Q (.str r) H
theorem op_mulS {X : Cx} : OpR X (binaryOp .Mult) rMulS := by
  intro pins s σ H x y v u Q I rx ry h
  obtain ⟨z, k, rfl, rfl, hz, k0, k1, q⟩ := h
  obtain ⟨t, rfl⟩ := rx
  obtain ⟨t2, rfl⟩ := ry
  refine PySem.P.mul_str ?_ (fun h1 h2 => ?_) (fun h1 h2 => ?_) ?_
  · rw [decide_eq_false (by omega), decide_eq_false (by omega)] <;> rfl
  · have : (2 ^ 63 - 1) / (1000 : Int) ≤ (2 ^ 63 - 1) / k := by
      refine Int.le_ediv_of_mul_le (by omega) ?_
      have : ((2 ^ 63 - 1) / (1000 : Int)) * k ≤ ((2 ^ 63 - 1) / (1000 : Int)) * 1000 := Int.mul_le_mul_of_nonneg_left k1 (by decide)
      have e : ((2 ^ 63 - 1) / (1000 : Int)) * 1000 ≤ 2 ^ 63 - 1 := by decide
      omega
    have e : (1000 : Int) ≤ (2 ^ 63 - 1) / (1000 : Int) := by decide
    omega
  · have : z.length * k.toNat ≤ 100 * 1000 := Nat.mul_le_mul hz (by omega)
    have eZ : sizeLine = 16777216 := rfl
    show decide (z.length * k.toNat > sizeLine) = false
    exact decide_eq_false (by omega)
  · by_cases a : k < 1
    · rw [if_pos a]
      exact ⟨by decide, ⟨.str _, H, I.tok _, ⟨_, rfl⟩, q _⟩⟩
    · rw [if_neg a]
      by_cases b : (k == 1 || z.length == 0) = true
      · rw [if_pos b]
        exact ⟨.str _, H, I, ⟨_, rfl⟩, q _⟩
      · rw [if_neg b]
        refine ⟨?_, ⟨.str _, H, I.tok _, ⟨_, rfl⟩, q _⟩⟩
        have e := rep_size z.cps k.toNat #[]
        have : z.cps.size * k.toNat ≤ 100 * 1000 := Nat.mul_le_mul hz (by omega)
        have eZ : sizeLine = 16777216 := rfl
        show ((List.replicate k.toNat z.cps).foldl (fun x1 x2 => x1 ++ x2) #[]).size ≤ sizeLine
        rw [e, Nat.mul_comm]
        simp only [Array.size_empty]
        omega
end L2

-- part: KW5
namespace Toy
open PySem L2
/-! ### _law_none -/
section
variable {P : Program} {w : World} {K : PySem.W.Frag} {mg : Str → Option Value} {base : Heap}
theorem p_catAZ {H : Hp} {Q : VK} {a b : Addr} {xs ys : List V} (ha : SqT K H a xs) (hb : SqT K H b ys) (hz : xs.length + ys.length ≤ sizeLine) (q : ∀ r H', Same H H' → SqT K H' r (xs ++ ys) → Q (.ref r) H') : rCatA K (.ref a) (.ref b) H Q :=
  ⟨a, b, xs, ys, rfl, rfl, ha, hb, hz, fun e => by subst e; exact q b H (Same.refl H) hb, fun _ e => by subst e; rw [List.append_nil] at q; exact q a H (Same.refl H) ha, fun _ _ p hp => q p _ (Same.new hp) (SqT.of upd_same)⟩
theorem p_slAZ {H : Hp} {Q : VK} {a : Addr} {xs : List V} {lo hi : Option Int} (ha : SqT K H a xs) (q : ∀ r H', Same H H' → SqT K H' r (cutV xs lo hi) → Q (.ref r) H') : rSlA K (.ref a) lo hi H Q :=
  ⟨a, xs, rfl, ha, fun hw => q a H (Same.refl H) (by
    have e : cutV xs lo hi = xs := by
      unfold cutV
      rw [hw.1, hw.2, List.drop_zero, Nat.sub_zero, List.take_length]
    rw [e]
    exact ha), fun _ p hp => q p _ (Same.new hp) (SqT.of upd_same)⟩
theorem sl_loZ {σ : St} {H : Hp} {Q : VK} {i : Nat} {x : V} {c : Int} (h : σ[i]? = some (some x)) (q : rSlA K x (some c) none H Q) : tSl (rSlA K) (tVar i) (tPart (tC (.int c))) tNoPart σ H Q := ⟨x, h, c, rfl, q⟩
theorem sl_d2Z {σ : St} {H : Hp} {Q : VK} {i j : Nat} {x : V} {c : Int} (h : σ[i]? = some (some x)) (h1 : σ[j]? = some (some (.int c))) (q : rSlA K x (some (c + 1)) none H Q) : tSl (rSlA K) (tVar i) (tPart (tOp (rI0 fun i j => .int (i + j)) (tVar j) (tC (.int 1)))) tNoPart σ H Q := ⟨x, h, _, h1, c, 1, rfl, rfl, c + 1, rfl, q⟩
theorem cut_inZ {xs : List V} {lo hi : Option Int} : (∀ y ∈ cutV xs lo hi, y ∈ xs) ∧ (cutV xs lo hi).length ≤ xs.length := by
  unfold cutV
  exact ⟨fun y hy => List.mem_of_mem_drop (List.mem_of_mem_take hy), by rw [List.length_take, List.length_drop]; omega⟩
/-- an odd thing, whatever becomes of zs -/
def SafeZ (K : PySem.W.Frag) (zs : List Addr) (H : Hp) (x : V) (c : Option (List V)) : Prop := ∀ Hz, ButL zs H Hz → Thing K Hz x c
theorem SafeZ.same {zs : List Addr} {H H' : Hp} {x : V} {c : Option (List V)} (e : Same H H') (h : SafeZ K zs H x c) : SafeZ K zs H' x c := fun Hz b => h Hz ((ButL.of e).trans b)
theorem SafeZ.lit {zs : List Addr} {H : Hp} {x : V} {T : String} (h : ∀ Hz, TyB K Hz x T) (n : T ≠ "tuple") : SafeZ K zs H x none := fun Hz _ => ⟨T, h Hz, n⟩
theorem SafeZ.lst {zs : List Addr} {H : Hp} {p : Addr} {xs : List V} (h : H p = some (.lst xs)) (n : p ∉ zs) : SafeZ K zs H (.ref p) none := fun Hz b => ⟨"list", .lst (SqL.of (b _ _ h n)), by decide⟩
theorem SafeZ.dic {zs : List Addr} {H : Hp} {p : Addr} {xs : List (Key × V)} (h : H p = some (.dK xs)) (n : p ∉ zs) : SafeZ K zs H (.ref p) none := fun Hz b => ⟨"dict", .dK (b _ _ h n), by decide⟩
theorem sqt_butZ {zs : List Addr} {H Hz : Hp} {a : Addr} {xs : List V} (nt : ∀ z ∈ zs, ∃ ys, H z = some (.lst ys)) (e : ButL zs H Hz) (h : SqT K H a xs) : SqT K Hz a xs := by
  rcases h with (h | ⟨o, h⟩) | h
  · exact .inl (.inl (e _ _ h fun m => by obtain ⟨ys, hy⟩ := nt a m; rw [hy] at h; cases h))
  · exact .inl (.inr ⟨o, e _ _ h fun m => by obtain ⟨ys, hy⟩ := nt a m; rw [hy] at h; cases h⟩)
  · exact .inr h
theorem SafeZ.tup {zs : List Addr} {H : Hp} {r : Addr} {xs : List V} (nt : ∀ z ∈ zs, ∃ ys, H z = some (.lst ys)) (h : SqT K H r xs) (l : xs.length ≤ 1000) (it : ∀ y ∈ xs, ∃ T, ∀ Hz, ButL zs H Hz → TyB K Hz y T) : SafeZ K zs H (.ref r) (some xs) :=
  fun Hz b => ⟨r, rfl, sqt_butZ nt b h, l, fun y hy => (it y hy).imp fun T t => t Hz b⟩
/-- things that are no answer of so many truths -/
def OddsZ (K : PySem.W.Frag) (n : Nat) (zs : List Addr) (H : Hp) (xs : List V) : Prop := ∀ x ∈ xs, ∃ c, wsBZ c (n : Int) = false ∧ SafeZ K zs H x c
theorem OddsZ.same {n : Nat} {zs : List Addr} {H H' : Hp} {xs : List V} (e : Same H H') (h : OddsZ K n zs H xs) : OddsZ K n zs H' xs := fun x hx => (h x hx).imp fun _ t => ⟨t.1, t.2.same e⟩
theorem OddsZ.snoc {n : Nat} {zs : List Addr} {H : Hp} {xs : List V} {x : V} {c : Option (List V)} (h : OddsZ K n zs H xs) (b : wsBZ c (n : Int) = false) (t : SafeZ K zs H x c) : OddsZ K n zs H (xs ++ [x]) := fun y hy => by
  rcases List.mem_append.mp hy with h2 | h2
  · exact h y h2
  · rw [List.mem_singleton.mp h2]
    exact ⟨c, b, t⟩
theorem ws_len {n : Nat} {xs : List V} (h : xs.length ≠ n) : wsBZ (some xs) (n : Int) = false := by
  show (decide ((xs.length : Int) = (n : Int)) && _) = false
  rw [decide_eq_false (by omega)]
  rfl
theorem ws_bad {n : Nat} {xs : List V} {y : V} (h : y ∈ xs) (b : bitBZ y = false) : wsBZ (some xs) (n : Int) = false := by
  show (_ && xs.all bitBZ) = false
  have : xs.all bitBZ = false := by
    cases e : xs.all bitBZ with
    | false => rfl
    | true => rw [List.all_eq_true.mp e y h] at b; cases b
  rw [this, Bool.and_false]
theorem its_intZ {zs : List Addr} {H : Hp} {W : List Int} : ∀ y ∈ W.map V.int, ∃ T, ∀ Hz, ButL zs H Hz → TyB K Hz y T := fun y hy => by
  obtain ⟨i, _, rfl⟩ := List.mem_map.mp hy
  exact ⟨"int", fun _ _ => .int i⟩
abbrev sLno : Stmt := s__law_none
abbrev nLno : List Str := ["draw", "bits", "at", "some", "one"]
theorem scLno : FnScope nLno ["draw", "bits"] (defScope sLno) := ⟨rfl, rfl, rfl, by decide +kernel, rfl, by decide +kernel, by decide +kernel⟩

def spLno (K : PySem.W.Frag) : Sp := fun vs H Q _ => ∃ (d sc a : Addr) (n : Nat) (ns W : List Int), vs = [.ref d, .ref a] ∧ DrA K sc ns H d ∧ H a = some (.tup (W.map V.int)) ∧ Bits n W ∧ 1 ≤ n ∧ n ≤ 12 ∧
  ∀ (x : V) (c : Option (List V)) (H' : Hp), Ex d H H' → DrA K sc ns H' d → wsBZ c (n : Int) = false → SafeZ K [d] H' x c → Q x H'
theorem ok_lno {f f__law_next : Addr} {fd fd__law_next : FuncData} (F : Fun K "_law_none" "_law_none" sLno f fd) (B : Bl mg) (D__law_next : Df K mg "_law_next" sNext ["draw", "size"] f__law_next fd__law_next) (G__law_next : FnOk P w K mg base CX0 2 f__law_next fd__law_next ["draw", "size"] (spNext K)) : FnOk P w K mg base CX0 3 f fd ["draw", "bits"] (spLno K) := by
  refine F.ok scLno (fun vs H Q E h => ?_) (fun cdv A outer s H vs Q E hr h => ?_)
  · obtain ⟨d, sc, a, n, ns, W, rfl, _⟩ := h
    rfl
  · obtain ⟨d, sc, a, n, ns, W, rfl, D0, ha, bW, n1, n12, q⟩ := h
    refine ⟨_, pss_cons (ps_set (i := 2) scLno.nd rfl (Or.inl rfl) (pe_call G__law_next hr rfl D__law_next.g D__law_next.F.kp D__law_next.b .nil pass0 (pa_cons (pv 0) (pa_cons (pe_callB call_len_seq (by rfl) B.len PySem.boot_len (pa_cons (pv 1) pa_nil)) pa_nil))))
      (pss_cons (ps_set (i := 3) scLno.nd rfl (Or.inl rfl) (pe_lst (pa_cons (pe_op op_catA (pv 1) (pe_tup (pa_cons pe_int pa_nil))) (pa_cons (pe_slice sl_tupA (pv 1) (po_some pe_int) po_none) (pa_cons (pe_callTy call_list_of (by rfl) B.list (by decide +kernel) (pa_cons (pv 1) pa_nil)) (pa_cons (pe_op op_mulS pe_str (pe_callB call_len_seq (by rfl) B.len PySem.boot_len (pa_cons (pv 1) pa_nil))) (pa_cons pe_non (pa_cons pe_int (pa_cons pe_dnewK (pa_cons (pe_tup pa_nil) (pa_cons (pe_lst (pa_cons pe_int pa_nil)) pa_nil)))))))))))
      (pss_cons (ps_for PassesOwn.never rfl (pi_tup (pe_tup (pa_cons pe_bl (pa_cons pe_bl (pa_cons pe_non (pa_cons pe_int (pa_cons (pe_un un_neg pe_int) (pa_cons pe_str (pa_cons (pe_tup (pa_cons pe_int pa_nil)) pa_nil))))))))) (pg_name (i := 4) scLno.nd rfl (Or.inl rfl)) (pss_one (ps_expr (pe_bm PySem.F.plainAttrs_list PySem.F.slot_list_append PySem.F.type_list_append mt_append (pv 3) (pa_cons (pe_op op_catA (pe_op op_catA (pe_slice sl_tupA (pv 1) po_none (po_some (pv 2))) (pe_tup (pa_cons (pv 4) pa_nil))) (pe_slice sl_tupA (pv 1) (po_some (pe_op op_add (pv 2) pe_int)) po_none)) pa_nil)))))
      (pss_one (ps_ret (pe_ix ix_list (pv 3) (pe_call G__law_next hr rfl D__law_next.g D__law_next.F.kp D__law_next.b .nil pass0 (pa_cons (pv 0) (pa_cons (pe_callB call_len_seq (by rfl) B.len PySem.boot_len (pa_cons (pv 3) pa_nil)) pa_nil))) (fun _ _ => rfl)))))), ?_⟩
    show tSeq _ _ _ [some (.ref d), some (.ref a), none, none, none] H
    have eZ : sizeLine = 16777216 := rfl
    have lW := bW.1
    have nad : a ≠ d := fun z => by
      obtain ⟨_, D0'⟩ := D0
      rw [z, D0'.dr] at ha
      cases ha
    refine seq_gen (fun σ' H' => ∃ i : Int, σ' = [some (.ref d), some (.ref a), some (.int i), none, none] ∧ Ex d H H' ∧ DrA K sc ns H' d) (fun nx hnx => ?_) ?_
    · refine ⟨_, rfl, _, rfl, a, _, rfl, .inr (SqT.of ha), ?_⟩
      rw [List.length_map, lW]
      exact ⟨d, (n : Int), sc, ns, rfl, by omega, D0, fun r H1 r0 r1 E1 D1 => hnx _ _ ⟨r, rfl, E1, D1⟩⟩
    rintro σ1 H1 ⟨i, rfl, E1, D1⟩
    have ha1 := E1 _ _ ha nad
    have nt : ∀ {Hx : Hp}, DrA K sc ns Hx d → ∀ z ∈ [d], ∃ ys, Hx z = some (.lst ys) := fun {Hx} D z hz => by
      rw [List.mem_singleton.mp hz]
      obtain ⟨_, D'⟩ := D
      exact ⟨_, D'.dr⟩
    refine seq_gen (fun σ' H' => ∃ (fl : Addr) (ys : List V), σ' = [some (.ref d), some (.ref a), some (.int i), some (.ref fl), none] ∧ Same H1 H' ∧ H1 fl = none ∧ H' fl = some (.lst ys) ∧ ys.length ≤ 9 ∧ OddsZ K n [d, fl] H' ys ∧ 0 < ys.length) (fun nx hnx => ?_) ?_
    · walk_at "rd"
      refine ⟨by show 1 ≤ sizeLine; decide, fun p1 hp1 => ?_⟩
      have g1 := Same.new (o := .tup [V.int 0]) hp1
      have ts1 : SqT K (upd H1 p1 (.tup [V.int 0])) p1 [V.int 0] := SqT.of upd_same
      have D2 := DrA.same g1 D1
      generalize upd H1 p1 (.tup [V.int 0]) = H2 at *
      have ha2 := g1 _ _ ha1
      refine p_catAZ (SqT.of ha2) ts1 (by rw [List.length_map]; show _ + 1 ≤ _; omega) fun r1 H3 s3 hr1 => ?_
      have D3 := DrA.same s3 D2
      have ha3 := s3 _ _ ha2
      have k1 : OddsZ K n [d] H3 ([] ++ [V.ref r1]) := OddsZ.snoc (fun x h => nomatch h) (ws_len (by rw [List.length_append, List.length_map, lW]; show n + 1 ≠ n; omega)) (SafeZ.tup (nt D3) hr1 (by rw [List.length_append, List.length_map]; show _ + 1 ≤ _; omega) fun y hy => by
        rcases List.mem_append.mp hy with h | h
        · exact its_intZ y h
        · rw [List.mem_singleton.mp h]
          exact ⟨_, fun _ _ => .int 0⟩)
      refine sl_loZ rfl ?_
      refine p_slAZ (SqT.of ha3) fun r2 H4 s4 hr2 => ?_
      have D4 := DrA.same s4 D3
      have ha4 := s4 _ _ ha3
      have lc : (cutV (W.map V.int) (some 1) none).length = n - 1 := by
        unfold cutV
        have e1 : ∀ m : Nat, HT.sIx m 0 (some 1) = min 1 m := fun m => HT.sIx_nat m 0 1
        rw [e1, HT.sIx_none, List.length_take, List.length_drop, List.length_map, lW]
        omega
      have k2 := (k1.same s4).snoc (ws_len (by rw [lc]; omega)) (SafeZ.tup (nt D4) hr2 (by rw [lc]; omega) fun y hy => its_intZ y (cut_inZ.1 y hy))
      refine ⟨a, _, rfl, .inr (SqT.of ha4), fun l hl => ?_⟩
      have s5 := Same.new (o := .lst (W.map V.int)) hl
      have hl5 : upd H4 l (.lst (W.map V.int)) l = some (.lst (W.map V.int)) := upd_same
      have D5 := DrA.same s5 D4
      have nld := D4.nd hl
      generalize upd H4 l (.lst (W.map V.int)) = H5 at *
      have ha5 := s5 _ _ ha4
      have k3 := (k2.same s5).snoc (c := none) rfl (SafeZ.lst hl5 (by rw [List.mem_singleton]; exact nld))
      refine ⟨a, _, rfl, .inr (SqT.of ha5), ?_⟩
      refine ⟨_, _, rfl, rfl, by decide, by omega, by rw [List.length_map]; omega, fun z => ?_⟩
      have k4 := ((k3.snoc (c := none) rfl (SafeZ.lit (fun Hz => TyB.str z) (by decide))).snoc (c := none) rfl (SafeZ.lit (fun Hz => TyB.non) (by decide))).snoc (c := none) rfl (SafeZ.lit (fun Hz => TyB.int 0) (by decide))
      refine fun p6 hp6 => ?_
      have s6 := Same.new (o := .dK []) hp6
      have hl6 : upd H5 p6 (.dK []) p6 = some (.dK []) := upd_same
      have D6 := DrA.same s6 D5
      have nl6 := D5.nd hp6
      generalize upd H5 p6 (.dK []) = H6 at *
      have k5 := (k4.same s6).snoc (c := none) rfl (SafeZ.dic hl6 (by rw [List.mem_singleton]; exact nl6))
      refine ⟨Nat.zero_le _, fun p7 hp7 => ?_⟩
      have s7 := Same.new (o := .tup []) hp7
      have hl7 : upd H6 p7 (.tup []) p7 = some (.tup []) := upd_same
      have D7 := DrA.same s7 D6
      generalize upd H6 p7 (.tup []) = H7 at *
      have k6 := (k5.same s7).snoc (ws_len (by show 0 ≠ n; omega)) (SafeZ.tup (nt D7) (SqT.of hl7) (Nat.zero_le _) fun y hy => nomatch hy)
      refine ⟨by show 1 ≤ sizeLine; decide, fun p8 hp8 => ?_⟩
      have s8 := Same.new (o := .lst [V.int 0]) hp8
      have hl8 : upd H7 p8 (.lst [V.int 0]) p8 = some (.lst [V.int 0]) := upd_same
      have D8 := DrA.same s8 D7
      have nl8 := D7.nd hp8
      generalize upd H7 p8 (.lst [V.int 0]) = H8 at *
      have k7 := (k6.same s8).snoc (c := none) rfl (SafeZ.lst hl8 (by rw [List.mem_singleton]; exact nl8))
      have s18 := Same.trans g1 (Same.trans s3 (Same.trans s4 (Same.trans s5 (Same.trans s6 (Same.trans s7 s8)))))
      refine ⟨by show 9 ≤ sizeLine; decide, fun fl hfl => hnx _ _ ⟨fl, _, rfl, Same.trans s18 (Same.new hfl), Same.nn s18 hfl, upd_same, Nat.le_refl _, fun x hx => (k7 x hx).imp fun c t => ⟨t.1, fun Hz b => t.2 Hz fun y o hy hn => ?_⟩, by show 0 < 9; decide⟩⟩
      have nyf : y ≠ fl := ne_of_none hy hfl
      exact b y o (by rw [upd_ne nyf]; exact hy) fun hm => by
        rcases List.mem_cons.mp hm with h | h
        · exact hn (List.mem_singleton.mpr h)
        · exact nyf (List.mem_singleton.mp h)
    rintro σ2 H2 ⟨fl, ys, rfl, s2, nfl, hfl, ly, ok2, pos⟩
    have D2 := DrA.same s2 D1
    have nfd := D1.nd nfl
    have ha2 := s2 _ _ ha1
    refine seq_gen (fun σ' H' => ∃ (l4 : Option V) (ys : List V), σ' = [some (.ref d), some (.ref a), some (.int i), some (.ref fl), l4] ∧ Same H1 H' ∧ H' fl = some (.lst ys) ∧ ys.length ≤ 16 ∧ OddsZ K n [d, fl] H' ys ∧ 0 < ys.length) (fun nx hnx => ?_) ?_
    · refine ⟨_, rfl, by show 1 ≤ sizeLine; decide, fun p1 hp1 => ?_⟩
      have g1 := Same.new (o := .tup [V.int 0]) hp1
      have t1 : upd H2 p1 (.tup [V.int 0]) p1 = some (.tup [V.int 0]) := upd_same
      generalize upd H2 p1 (.tup [V.int 0]) = H3 at *
      refine ⟨by show 7 ≤ sizeLine; decide, fun z hz => ?_⟩
      have g2 : Same H3 (upd H3 z (.tup [V.bl true, V.bl false, V.non, V.int 2, V.int (-1), V.str "0", V.ref p1])) := Same.new hz
      have hz' : upd H3 z (.tup [V.bl true, V.bl false, V.non, V.int 2, V.int (-1), V.str "0", V.ref p1]) z = some (.tup [V.bl true, V.bl false, V.non, V.int 2, V.int (-1), V.str "0", V.ref p1]) := upd_same
      have np1 : p1 ∉ [d, fl] := fun m => by
        rcases List.mem_cons.mp m with h | h
        · exact D2.nd hp1 h
        · rw [List.mem_singleton.mp h, hfl] at hp1
          cases hp1
      have nzf : z ≠ fl := fun h => by rw [h, g1 _ _ hfl] at hz; cases hz
      have ones : ∀ y ∈ [V.bl true, V.bl false, V.non, V.int 2, V.int (-1), V.str "0", V.ref p1], bitBZ y = false ∧ (∀ Hx, Hx p1 = some (.tup [V.int 0]) → ∃ T, ∀ Hz, ButL [d, fl] Hx Hz → TyB K Hz y T) := fun y hy => by
        simp only [List.mem_cons, List.not_mem_nil, or_false] at hy
        rcases hy with rfl | rfl | rfl | rfl | rfl | rfl | rfl
        · exact ⟨rfl, fun _ _ => ⟨_, fun _ _ => .bl true⟩⟩
        · exact ⟨rfl, fun _ _ => ⟨_, fun _ _ => .bl false⟩⟩
        · exact ⟨rfl, fun _ _ => ⟨_, fun _ _ => .non⟩⟩
        · exact ⟨rfl, fun _ _ => ⟨_, fun _ _ => .int 2⟩⟩
        · exact ⟨rfl, fun _ _ => ⟨_, fun _ _ => .int (-1)⟩⟩
        · exact ⟨rfl, fun _ _ => ⟨_, fun _ _ => .str "0"⟩⟩
        · exact ⟨rfl, fun Hx hx => ⟨_, fun Hz b => .tup (SqT.of (b _ _ hx np1))⟩⟩
      have l7 : [V.bl true, V.bl false, V.non, V.int 2, V.int (-1), V.str "0", V.ref p1].length = 7 := rfl
      have g12 := Same.trans g1 g2
      have t1' := g2 _ _ t1
      generalize [V.bl true, V.bl false, V.non, V.int 2, V.int (-1), V.str "0", V.ref p1] = os at *
      generalize upd H3 z (.tup os) = H4 at *
      refine ⟨z, rfl, ⟨_, SqT.of hz'⟩, for_tup (K := K) (a := z) (xs := os) (fun m σ' H' => ∃ (l4 : Option V) (ys : List V), σ' = [some (.ref d), some (.ref a), some (.int i), some (.ref fl), l4] ∧ Same H1 H' ∧ H' z = some (.tup os) ∧ H' p1 = some (.tup [V.int 0]) ∧ H' fl = some (.lst ys) ∧ ys.length ≤ 9 + m ∧ OddsZ K n [d, fl] H' ys ∧ 0 < ys.length)
        ⟨none, ys, rfl, Same.trans s2 g12, hz', t1', g12 _ _ hfl, ly, ok2.same g12, pos⟩ (fun m σ' H' _ ⟨_, _, _, _, e, _⟩ => SqT.of e) ?_ ?_⟩
      · rintro m y σ' H5 hm ⟨l4, ys, rfl, s5, hz5, hp5, hf5, ly5, ok5, pos5⟩
        have ml := (List.getElem?_eq_some_iff.mp hm).1
        obtain ⟨yb, yt⟩ := ones y (List.mem_of_getElem? hm)
        show tDrop _ _ [some (.ref d), some (.ref a), some (.int i), some (.ref fl), some y] H5
        have ha5 := s5 _ _ ha1
        have D5 := DrA.same s5 D1
        refine ⟨_, rfl, .inl ⟨rfl, _, SqL.of hf5⟩, _, rfl, _, rfl, i, rfl, p_slAZ (SqT.of ha5) fun r1 H6 s6 h1 => ⟨_, rfl, by show 1 ≤ sizeLine; decide, fun p hp => ?_⟩⟩
        have s7 := Same.new (o := .tup [y]) hp
        have l1 := cut_inZ (xs := W.map V.int) (lo := none) (hi := some i)
        rw [List.length_map] at l1
        refine p_catAZ (Same.sqt s7 h1) (SqT.of upd_same) (by have := l1.2; show _ + 1 ≤ _; omega) fun r2 H8 s8 h2 => ?_
        have s68 := Same.trans s6 (Same.trans s7 s8)
        refine sl_d2Z (c := i) rfl rfl (p_slAZ (SqT.of (s68 _ _ ha5)) fun r3 H9 s9 h3 => ?_)
        have l3 := cut_inZ (xs := W.map V.int) (lo := some (i + 1)) (hi := none)
        rw [List.length_map] at l3
        refine p_catAZ (Same.sqt s9 h2) h3 (by have := l1.2; have := l3.2; rw [List.length_append]; show _ + 1 + _ ≤ _; omega) fun r4 H10 s10 h4 => ?_
        have s510 := Same.trans s68 (Same.trans s9 s10)
        have D10 := DrA.same s510 D5
        have hf10 := s510 _ _ hf5
        have nt2 : ∀ q ∈ [d, fl], ∃ ys, H10 q = some (.lst ys) := fun q hq => by
          rcases List.mem_cons.mp hq with h | h
          · rw [h]; exact nt D10 d List.mem_cons_self
          · rw [List.mem_singleton.mp h]; exact ⟨_, hf10⟩
        have hp10 := s510 _ _ hp5
        obtain ⟨T, tT⟩ := yt H10 hp10
        have sf : SafeZ K [d, fl] H10 (.ref r4) (some (cutV (W.map V.int) none (some i) ++ [y] ++ cutV (W.map V.int) (some (i + 1)) none)) := SafeZ.tup nt2 h4 (by have := l1.2; have := l3.2; rw [List.length_append, List.length_append]; show _ + 1 + _ ≤ _; omega) fun v hv => by
          rcases List.mem_append.mp hv with h | h
          · rcases List.mem_append.mp h with h | h
            · exact its_intZ v (l1.1 v h)
            · rw [List.mem_singleton.mp h]
              exact ⟨T, tT⟩
          · exact its_intZ v (l3.1 v h)
        have ok10 := (ok5.same s510).snoc (ws_bad (y := y) (List.mem_append_left _ (List.mem_append_right _ List.mem_cons_self)) yb) sf
        refine ⟨fl, ys, _, rfl, rfl, hf10, by omega, ⟨_, _, rfl, Same.upN (Same.trans s5 s510) nfl, by rw [upd_ne nzf]; exact s510 _ _ hz5, by rw [upd_ne (fun h => np1 (by rw [h]; simp))]; exact hp10, upd_same, by rw [List.length_append]; show ys.length + 1 ≤ _; omega, fun x hx => (ok10 x hx).imp fun c t => ⟨t.1, fun Hz b => t.2 Hz ((ButL.at (by simp)).trans b)⟩, by rw [List.length_append]; show 0 < ys.length + 1; omega⟩⟩
      · rintro σ' H5 ⟨l4, ys, rfl, s5, hz5, hp5, hf5, ly5, ok5, pos5⟩
        exact hnx _ _ ⟨l4, ys, rfl, s5, hf5, by omega, ok5, pos5⟩
    rintro σ3 H3 ⟨l4, ys3, rfl, s3, hf3, ly3, ok3, pos3⟩
    have D3 := DrA.same s3 D1
    refine ⟨_, rfl, _, rfl, _, rfl, fl, _, rfl, .inl (SqL.of hf3), ?_⟩
    refine ⟨d, (ys3.length : Int), sc, ns, rfl, by omega, D3, fun r H4 r0 r1 E4 D4 => ?_⟩
    obtain ⟨z, rfl⟩ := Int.eq_ofNat_of_zero_le r0
    have zl : z < ys3.length := by omega
    refine p_ix (SqL.of (E4 _ _ hf3 nfd)) (atI_nat (List.getElem?_eq_getElem zl)) ?_
    obtain ⟨c, cb, sf⟩ := ok3 _ (List.getElem_mem zl)
    refine q _ c H4 (Ex.trans E1 (Ex.trans (Ex.same s3) E4)) D4 cb fun Hz b => sf Hz fun y o hy hn => b y o (E4 y o hy fun h => hn (by rw [h]; simp)) fun h => hn (by rw [List.mem_singleton.mp h]; simp)
end
end Toy

-- part: EX1
/-! an exception that is kept behind its except suite: «except X as e: error = e» -/
namespace Toy
open PySem PySem.Spec PyProof.Rows L2
/-- an exception of class cls at a, its own dict at d -/
def ErrO (cls : Value) (d : Option Addr) (a : Addr) : HO := .ext fun h => ∃ (oe : Obj) (vs : Array Value), h.get? a = some oe ∧ Zc cls d oe ∧ oe.data = .fields vs
theorem errO_ok {P : Program} {w : World} {H : Hp} {h : Heap} {a : Addr} {cls : Value} {d : Option Addr} {oe : Obj} {vs : Array Value} (e : h.get? a = some oe) (z : Zc cls d oe) (hd : oe.data = .fields vs) : ObjOk P w H h a (ErrO cls d a) :=
  ⟨⟨oe, vs, e, z, hd⟩, ⟨oe, e⟩, fun h1 h2 ⟨o1, v1, q1, q2, q3⟩ k => ⟨o1, v1, k _ q1, q2, q3⟩⟩
theorem errO_at {P : Program} {w : World} {H : Hp} {h : Heap} {a : Addr} {cls : Value} {d : Option Addr} (x : HOk P w H h) (e : H a = some (ErrO cls d a)) : ∃ (oe : Obj) (vs : Array Value), h.get? a = some oe ∧ Zc cls d oe ∧ oe.data = .fields vs := (x a _ e).1
theorem err_tbl {cls : Value} {d : Option Addr} {a : Addr} (ps : Array Value) : ErrO cls d a ≠ .tbl ps := fun z => by
  unfold ErrO at z
  cases z
section
variable {X : Cx} {pins : List (Addr × Obj)} {σ : L2.St} {H : Hp} {s : Shared}
/-- an object that came behind the entry, untracked so far, is tracked from now on -/
theorem Inv.keepErr {a : Addr} {cls : Value} {d : Option Addr} {oe : Obj} {vs : Array Value} (I : Inv X pins σ H s) (ha : s.heap.get? a = some oe) (z : Zc cls d oe) (hd : oe.data = .fields vs) (na : H a = none) (nl : a ≠ X.env.locals)
    (n0 : X.s_0.heap.get? a = none) (np : ∀ p ∈ X.pn ++ pins, p.1 ≠ a) : Inv X pins σ (upd H a (ErrO cls d a)) s := by
  have ne : ∀ {b : Addr} {o : HO}, H b = some o → b ≠ a := fun hb => ne_of_none hb na
  have nc : ∀ x c, X.env.cells.lookup x = some c → c ≠ a := fun x c hc e => by
    obtain ⟨v, o, ho, hv⟩ := I.cell x c hc
    rw [e, ha] at ho
    cases ho
    rw [hd] at hv
    cases hv
  refine { ok := I.ok, os := I.os, bare := I.bare, loc := I.loc, cell := I.cell, len := I.len, base := ?_, free := ?_, freeC := ?_, pin := ?_, hok := ?_ }
  · refine ⟨I.base.keep, I.base.slot, fun b o hb n hx => ?_, I.base.there, fun b xs hb => ?_, fun b o u hb => ?_, fun b ps hb => ?_⟩
    · have nb : b ≠ a := fun e => by rw [e, n0] at hb; cases hb
      rw [upd_ne nb]
      exact I.base.free b o hb n hx
    · have h1 := I.base.tups b xs hb
      rw [upd_ne (ne h1)]
      exact h1
    · have h1 := I.base.frzs b o u hb
      rw [upd_ne (ne h1)]
      exact h1
    · obtain ⟨more, h1⟩ := I.base.tbls b ps hb
      exact ⟨more, by rw [upd_ne (ne h1)]; exact h1⟩
  · rw [upd_ne (Ne.symm nl)]
    exact I.free
  · intro x c hc
    rw [upd_ne (nc x c hc)]
    exact I.freeC x c hc
  · intro p hp
    obtain ⟨h1, h2, h3⟩ := I.pin p hp
    exact ⟨h1, by rw [upd_ne (np p hp)]; exact h2, h3⟩
  · intro b u hb
    by_cases e : b = a
    · subst e
      rw [upd_same] at hb
      cases hb
      exact errO_ok ha z hd
    · rw [upd_ne e] at hb
      exact (I.hok b u hb).stay (fun c v _ q => q) (fun c q => by rw [upd_ne (ne q)]; exact q) fun c xs q => by rw [upd_ne (ne q)]; exact q
end
/-- what the clause «except x as n» wishes of an exception, that is kept: slot i is n's -/
def wKeep (K : PySem.W.Frag) (c : Value) (i : Nat) (ts : Addr → Value → Option Addr → TS) (Wout : WX) (D : Ends) : WX := fun cls d σ H =>
  ∃ b, PySem.W.exmOne K cls c = some b ∧ (b = false → Wout cls d σ H) ∧
    (b = true → ∀ a, H a = none → ts a cls d { nx := fun σ' H' => D.nx (σ'.set i none) (upd H' a (ErrO cls d a)), rt := fun v H' => D.rt v (upd H' a (ErrO cls d a)), bk := fun σ' H' => D.bk (σ'.set i none) (upd H' a (ErrO cls d a)), ct := fun σ' H' => D.ct (σ'.set i none) (upd H' a (ErrO cls d a)) } (σ.set i (some (.ref a))) H)
section
variable {X : Cx} {x n : Str} {c : Value} {i : Nat} {body rest : List Stmt} {first : Stmt} {p1 p2 p3 : Pos} {tb : WX → TS} {ts : Addr → Value → Option Addr → TS} {Wout : WX}
theorem ps_try_keep (hst : X.stack = X.env :: X.outer) (hfm : X.env.frame = some X.env.locals) (hnd : X.N.Nodup) (hix : X.N[i]? = some n) (hkn : X.env.kindOf n = some .local) (hnm : Names X x c) (hex : X.ex = []) (tk : Takes X Wout)
    (hbd : ∀ (W : WX) (pn : List (Addr × Obj)) (xe : Value → Shared → Prop), Takes (X.tr pn xe) W → PassesOwn (model X.prog X.w) X.A X.env xe → PSs (X.tr pn xe) body (tb W))
    (hst2 : ∀ (a : Addr) (oe : Obj) (cls : Value) (d : Option Addr) (pn : List (Addr × Obj)), Zc cls d oe → (∃ vs, oe.data = .fields vs) → PSs (X.suite a ((a, oe) :: pn)) (first :: rest) (ts a cls d)) :
    PS X (.Try body [.ExceptHandler (some (.Name x p1)) (some n) (first :: rest) p2] [] [] p3) (fun D σ H => tb (wKeep X.K c i ts Wout D) D σ H) := by
  refine ⟨fun pins s σ H D I h => ?_⟩
  have okX := I.ok
  have eFr : X.A.frames = some (X.env :: X.outer) := by
    rw [okX.frames, hst]
  have eLoc : Loc X.env.scope n := .inl hkn
  have run := (hbd (wKeep X.K c i ts Wout D) (X.pn ++ pins) (fun e sa => wpAny (model X.prog X.w) X.A (noteFrame e X.env) (fun _ sb => wpAny (model X.prog X.w) X.A (setFlight e none) (fun _ sc =>
    wpAny (model X.prog X.w) X.A (handleBy e X.env [.ExceptHandler (some (.Name x p1)) (some n) (first :: rest) p2]) (SP X pins D) X.xe sc) X.xe sb) X.xe sa) ?caught PassesOwn.looking).run [] s σ H D (I.toTry _) h
  case caught =>
    rintro u sX ⟨a, B, sI, pq, σ1, H1, cls, d, rfl, JT, inB, ups, sky, nH, eos, bare, b, hm, hno, hyes⟩
    have J : Inv X pins σ1 H1 sI := JT.ofTry okX
    have sky2 : Sky B (X.env :: X.outer) a (Zc cls d) X.env.locals sX.heap := by
      rw [← hst]
      exact sky
    show wpAny (model X.prog X.w) X.A (noteFrame (.ref a) X.env) _ _ _
    refine Sky.land Zc.steady eFr hfm sky2 fun hp fy upf => ?_
    have JL : Inv X pins σ1 H1 { sX with heap := hp } := J.landed inB fy.1 (ups.trans upf) eos bare
    obtain ⟨oL, vL, gL, zL, dL⟩ := fy.there
    have nfrm : a ∉ frs (X.env :: X.outer) := fun hin => by
      obtain ⟨_, o2, g2, nf⟩ := fy.2.2.1.mem hin
      rw [gL] at g2
      cases g2
      exact nf _ dL
    have nloc : a ≠ X.env.locals := fun e => nfrm (List.mem_filterMap.mpr ⟨X.env, List.mem_cons_self, by rw [hfm, e]⟩)
    have nfs : a ∉ X.fs := fun hin => by
      obtain ⟨e, he, q⟩ := List.mem_filterMap.mp hin
      exact nfrm (List.mem_filterMap.mpr ⟨e, List.mem_cons_of_mem _ he, q⟩)
    have notI : ∀ b o, sI.heap.get? b = some o → b ∉ frs X.stack → b ≠ a := fun b o hb hfr e => by
      have := inB b o hb hfr
      rw [e, fy.2.1] at this
      cases this
    have SL := JL.suite gL dL nH nloc nfs
    refine wpAny_handleBy_cons (codeAny_handlers_test ?_) (fun q => by cases q)
    have lookT : PySem.W.Looks (model X.prog X.w) hp (typeOf (.ref a)) cls := fun A Q E s k q => wpAny_typeOf_ref (k _ _ gL) (by rw [zL.1]; exact q)
    have lookM := PySem.W.exm_one (M := model X.prog X.w) (JL.kIn) lookT hm
    have asks : ∀ {Q E : Value → Shared → Prop}, Q c { sX with heap := hp } → wpAny (model X.prog X.w) (X.A.mark (some (.ref a))) (eval (.Name x p1) X.env) Q E { sX with heap := hp } := fun {Q E} q => by
      obtain ⟨hgl, hdbg, hmg | ⟨hmg, hbt, hnn⟩⟩ := hnm
      · exact ld_glob (X := X.suite a ((a, oL) :: (X.pn ++ pins))) SL hgl hmg q hdbg
      · exact ld_blt (X := X.suite a ((a, oL) :: (X.pn ++ pins))) SL hgl hmg hbt q hnn hdbg
    refine asks (lookM.here ?_)
    cases b with
    | true =>
      refine codeAny_handlers_suite_as ?_
      refine HandSPX.lands_againZ fy fun hq fz upz => ?_
      have JM : Inv X pins σ1 H1 { sX with heap := hq } := J.landed inB fz.1 ((ups.trans upf).trans upz) eos bare
      obtain ⟨oM, vM, gM, zM, dM⟩ := fz.there
      have SM := JM.suite gM dM nH nloc nfs
      refine store_ok (X := X.suite a ((a, oM) :: (X.pn ++ pins))) (v := .ref a) SM hnd hix eLoc rfl (fun s5 S5 => ?_) (.inr hkn)
      refine wpAny_mono ((hst2 a oM cls d (X.pn ++ pins) zM ⟨_, dM⟩).run [] s5 _ H1 _ S5 (hyes rfl a nH)) (fun f s6 sp => ?_) (fun _ _ z => False.elim z)
      have last : ∀ {σ6 : L2.St} {H6 : Hp} {Q : Shared → Prop}, Inv (X.suite a ((a, oM) :: (X.pn ++ pins))) [] σ6 H6 s6 → (∀ s7, Inv X pins (σ6.set i none) (upd H6 a (ErrO cls d a)) s7 → Q s7) →
          wpAny (model X.prog X.w) X.A (do bindName X.env n .none; unbindBehindTheSuite X.env n p2) (fun _ s7 => Q s7) X.xe s6 := fun {σ6 H6 Q} S6 hfin => by
        have pa := S6.pin (a, oM) (List.mem_append_left _ List.mem_cons_self)
        have J6 : Inv X pins σ6 H6 s6 := S6.unsuite okX
        have pinned : Inv X ((a, oM) :: pins) σ6 H6 s6 := by
          refine ⟨J6.ok, J6.os, J6.bare, J6.base, J6.loc, J6.cell, J6.free, J6.freeC, fun p hp => ?_, J6.hok, J6.len⟩
          rcases List.mem_append.mp hp with hp | hp
          · exact J6.pin p (List.mem_append_left _ hp)
          · rcases List.mem_cons.mp hp with rfl | hp
            · exact pa
            · exact J6.pin p (List.mem_append_right _ hp)
        refine gone_ok pinned hnd hix hkn fun s7 J7 => hfin s7 ?_
        obtain ⟨g7, n7, _⟩ := J7.pin (a, oM) (List.mem_append_right _ List.mem_cons_self)
        have J8 : Inv X pins (σ6.set i none) H6 s7 := by
          refine ⟨J7.ok, J7.os, J7.bare, J7.base, J7.loc, J7.cell, J7.free, J7.freeC, fun p hp => J7.pin p ?_, J7.hok, J7.len⟩
          rcases List.mem_append.mp hp with hp | hp
          · exact List.mem_append_left _ hp
          · exact List.mem_append_right _ (List.mem_cons_of_mem _ hp)
        refine Inv.keepErr J8 g7 zM dM n7 nloc ?_ fun p hp => ?_
        · cases e0 : X.s_0.heap.get? a with
          | none => rfl
          | some o0 =>
            exfalso
            obtain ⟨o1, g1⟩ := J.base.there a o0 e0 (by rw [hex]; simp)
            exact notI a o1 g1 (by rw [hst]; exact nfrm) rfl
        · obtain ⟨g1, _, n1, n2, _⟩ := J.pin p hp
          refine notI p.1 p.2 g1 fun hin => ?_
          rcases List.mem_cons.mp (J.stkSub _ hin) with e | hin
          · exact n1 e
          · exact n2 hin
      cases f with
      | next =>
        obtain ⟨σ6, H6, S6, q6⟩ := sp
        exact last S6 fun s7 J7 => ⟨_, _, J7, q6⟩
      | brk =>
        obtain ⟨σ6, H6, S6, q6⟩ := sp
        exact last S6 fun s7 J7 => ⟨_, _, J7, q6⟩
      | cont =>
        obtain ⟨σ6, H6, S6, q6⟩ := sp
        exact last S6 fun s7 J7 => ⟨_, _, J7, q6⟩
      | ret u =>
        obtain ⟨v6, σ6, H6, S6, r6, q6⟩ := sp
        exact last S6 fun s7 J7 => ⟨_, _, _, J7, r6, q6⟩
    | false =>
      show wpAny _ X.A (handleBy (.ref a) X.env []) _ _ _
      refine wpAny_handleBy_nil ?_
      obtain ⟨k1, k2, k3, oe, vs, T, oT, tv, ge, ze, de, t1, _⟩ := id fy
      unfold PySem.passOn
      refine wpAny_bind (wpAny_field ge de t1 ?_)
      rw [if_neg (show ¬ ((Value.ref T == Value.none) = true) from by simp)]
      have out : wpAny (model X.prog X.w) X.A (setFlight (.ref a) X.env.frame) (fun _ s4 => wpAny (model X.prog X.w) X.A (throw (.ref a) : Sem Flow) (SP X pins D) X.xe s4) X.xe { sX with heap := hp } := by
        rw [hfm]
        refine HandSPX.setFlight_upZ fy fun hh fh uph => wpAny_throw (tk _ _ ?_)
        exact ⟨a, B, sI, pins, σ1, H1, cls, d, rfl, J, inB, (ups.trans upf).trans uph, .inr (.inr (by rw [hst]; exact fh)), nH, eos, bare, hno rfl⟩
      first
        | exact wpAny_bind (wpAny_pure (wpAny_bind out))
        | exact wpAny_bind out
  refine wpAny_Try_except (wpAny_mono run (fun f s1 sp => ?_) fun e s1 he => he)
  cases f with
  | next =>
    obtain ⟨σ2, H2, J2, q⟩ := sp
    exact wpAny_execs_nil ⟨σ2, H2, J2.ofTry okX, q⟩
  | brk =>
    obtain ⟨σ2, H2, J2, q⟩ := sp
    exact ⟨σ2, H2, J2.ofTry okX, q⟩
  | cont =>
    obtain ⟨σ2, H2, J2, q⟩ := sp
    exact ⟨σ2, H2, J2.ofTry okX, q⟩
  | ret u =>
    obtain ⟨v, σ2, H2, J2, r, q⟩ := sp
    exact ⟨v, σ2, H2, J2.ofTry okX, r, q⟩
end
end Toy

-- part: EX2
/-! isinstance(e, c) and e.f, e an exception that is kept -/
namespace Toy
open PySem PySem.Spec PyProof.Rows L2
/-- the exception at a, of the class at C, with the fields fs (none: no dict) -/
def ErrAt (H : Hp) (a C : Addr) (fs : List (Str × V)) : Prop := ∃ d : Option Addr, H a = some (ErrO (.ref C) d a) ∧ ((d = none ∧ fs = []) ∨ ∃ dx, d = some dx ∧ H dx = some (.xd fs))
theorem err_get {P : Program} {w : World} {H : Hp} {h : Heap} {a C : Addr} {fs : List (Str × V)} (x : HOk P w H h) (e : ErrAt H a C fs) : ∃ (oe : Obj) (od : Option Obj), PySem.W.InstAt h a oe C od ∧ (fs = [] ∨ ∃ (dx : Addr) (o : Obj) (mA : Str → Option Value), od = some o ∧ h.get? dx = some o ∧ h.Ns1 dx mA ∧ ∀ f, RelO (fs.lookup f) (mA f)) := by
  obtain ⟨d, ha, hd⟩ := e
  obtain ⟨oe, vs, g, z, dt⟩ := errO_at x ha
  have nc : PySem.W.notCls oe = true := by
    unfold PySem.W.notCls
    rw [dt] <;> rfl
  rcases hd with ⟨rfl, rfl⟩ | ⟨dx, rfl, hx⟩
  · exact ⟨oe, none, ⟨g, z.1, nc, by rw [z.2]; trivial⟩, .inl rfl⟩
  · obtain ⟨mA, hns, hr⟩ := (show ObjOk P w H h dx (.xd fs) from x dx _ hx)
    obtain ⟨o, es, ep, ho, rest⟩ := id hns
    exact ⟨oe, some o, ⟨g, z.1, nc, by rw [z.2]; exact ho⟩, .inr ⟨dx, o, mA, rfl, ho, hns, hr⟩⟩
def rIsErr (K : PySem.W.Frag) : List V → Hp → VK → Prop := fun xs H Q => ∃ (a C : Addr) (fs : List (Str × V)) (c : V) (u : Value) (b : Bool), xs = [.ref a, c] ∧ ErrAt H a C fs ∧ ExcC K C ∧ ClsV c u ∧ PySem.W.kitOne K (.ref C) u = some b ∧ Q (.bl b) H
section
variable {X : Cx}
theorem call_isErr : CallR X (.builtin "isinstance") (rIsErr X.K) := by
  intro pins s σ H xs us Q I r h
  obtain ⟨a, C, fs, c, u, b, rfl, ea, T, k, e, q⟩ := h
  obtain ⟨u1, u2, rfl, r1, r2⟩ := vals2 r
  have e2 := k.eq r2
  subst e2
  cases (show u1 = Value.ref a from r1)
  obtain ⟨oe, od, J, _⟩ := err_get I.hok ea
  obtain ⟨cd, hc, _⟩ := PySem.W.any_some T.hd
  exact PySem.W.kia_one (PySem.W.kitx_exc (by rw [hc]; rfl) T.hg T.hk T.hs T.ha T.hn T.ht T.hm) I.kIn J e (fun z => nomatch z) fun tk => ⟨.bl b, H, I.tok tk, rfl, q⟩
/-- e.f -/
def tErrF (K : PySem.W.Frag) (f : Str) (te : TE) : TE := fun σ H Q => te σ H fun x H1 => ∃ (a C : Addr) (fs : List (Str × V)) (v : V), x = .ref a ∧ ErrAt H1 a C fs ∧ XfC K C ∧ PySem.W.findIn K (.ref C) f = some none ∧ fs.lookup f = some v ∧ Q v H1
theorem pe_errF {e : Expr} {te : TE} {pos : Pos} {n : Str} (he : PE X e te) (hb : attributeBase e n X.env (eval e X.env) = eval e X.env := by rfl) : PE X (.Attribute e n pos) (tErrF X.K n te) := by
  refine ⟨fun pins s σ H Q I h => attr_of hb (thn (he.run pins s σ H _ I h) fun u s1 hh => ?_)⟩
  obtain ⟨x, H1, I1, rx, a, C, fs, v, rfl, ea, T, hno, l, q⟩ := hh
  obtain rfl : u = Value.ref a := rx
  obtain ⟨oe, od, J, hd⟩ := err_get I1.hok ea
  rcases hd with rfl | ⟨dx, o, mA, rfl, ho, hns, hr⟩
  · cases l
  · obtain ⟨ol, hol, hl⟩ := lookIn_ns hns
    rw [ho] at hol
    cases hol
    obtain ⟨uv, hu, ru⟩ := RelO.some_of (v := v) (o := mA n) (by rw [← l]; exact hr n)
    exact HandSPX.exc_get I1.kIn J T.ga T.gg T.exC (PySem.W.findObj_own T.hdC hno rfl (by rw [hl, hu])) (handed_of ru) ⟨v, H1, I1.tok _, ru, q⟩
end
end Toy

-- part: EX3
/-! xs.count(y) of flat things; which of fifteen classes -/
namespace Toy
open PySem PySem.Spec PyProof.Rows L2
def rCntF (K : PySem.W.Frag) : V → List V → Hp → VK → Prop := fun x xs H Q => ∃ (p : Addr) (ys : List V) (y : V), x = .ref p ∧ xs = [y] ∧ SqL K H p ys ∧ flatV y = true ∧ ys.all flatV = true ∧ Q (.int (ys.countP fun z => eqV z y : Nat)) H
theorem count_flat {x : V} : ∀ {ys : List V} {us : List Value}, Vals ys us → ys.all flatV = true → us.countP (eqU x) = ys.countP fun z => eqV z x
  | _, _, .nil, _ => rfl
  | y :: r, u :: t, .cons ry rt, f => by
    rw [List.all_cons, Bool.and_eq_true] at f
    rw [List.countP_cons, List.countP_cons, count_flat rt f.2, eqU_of ry f.1]
section
variable {X : Cx}
theorem mt_fcount : MtR X "list.count" (rCntF X.K) := by
  intro pins s σ H x xs v us Q I rx rxs h
  obtain ⟨p, ys, y, rfl, rfl, hs, fy, fys, q⟩ := h
  cases rx
  obtain ⟨u, rfl, ru⟩ := rxs.one
  obtain ⟨its, rv, ⟨⟨cls, dd, data, sl⟩, n, ho, hc, hdn, hd⟩, hlen⟩ := I.list hs
  simp only at hc hd
  subst hc hd
  refine call_meets PySem.F.slot_list_count ⟨_, ho, rfl⟩ PySem.F.entry_list_count (PySem.F.args_list_count_2 _ _)
    (SeqAt.list_countAt p its.toArray n dd sl u (eqU y)) ⟨ho, fun z hz => mem_eqAt ru fy rv fys z (by simpa using hz), ?_⟩
  refine ⟨.int (ys.countP fun z => eqV z y : Nat), H, I.tok _, ⟨s.toks, ?_⟩, q⟩
  show Value.int ((its.toArray.toList.countP (eqU y) : Nat) : Int) s.toks = _
  rw [← count_flat rv fys]
end
/-- the fifteen answers: the j-th says so -/
def isE (j : Nat) : List V := [.bl (decide (0 = j)), .bl (decide (1 = j)), .bl (decide (2 = j)), .bl (decide (3 = j)), .bl (decide (4 = j)), .bl (decide (5 = j)), .bl (decide (6 = j)), .bl (decide (7 = j)), .bl (decide (8 = j)), .bl (decide (9 = j)), .bl (decide (10 = j)), .bl (decide (11 = j)), .bl (decide (12 = j)), .bl (decide (13 = j)), .bl (decide (14 = j))]
theorem isE_eq (j : Nat) : isE j = (List.range 15).map fun i => V.bl (decide (i = j)) := rfl
theorem isE_flat (j : Nat) : (isE j).all flatV = true := rfl
theorem isE_at {j : Nat} (h : j < 15) : (isE j)[j]? = some (.bl true) := by
  rw [isE_eq, List.getElem?_map, List.getElem?_range h, Option.map_some, decide_eq_true rfl]
theorem isE_before {j : Nat} (h : j < 15) (m : Nat) (z : V) (hm : m < j) (hz : (isE j)[m]? = some z) : eqV z (.bl true) = false := by
  rw [isE_eq, List.getElem?_map, List.getElem?_range (by omega), Option.map_some, decide_eq_false (by omega)] at hz
  cases hz
  rfl
theorem isE_count : ∀ {j : Nat}, j < 15 → (isE j).countP (fun z => eqV z (.bl true)) = 1
  | 0, _ | 1, _ | 2, _ | 3, _ | 4, _ | 5, _ | 6, _ | 7, _ | 8, _ | 9, _ | 10, _ | 11, _ | 12, _ | 13, _ | 14, _ => rfl
  | n + 15, h => absurd h (by omega)
/-- the fifteen classes of the program's errors, and TurnError: their names, and what the top has of them -/
structure Errs (mg : Str → Option Value) (cs : Nat → Addr) : Prop where
  e0 : mg "NoProblem" = some (.ref (cs 0))
  e1 : mg "NoClause" = some (.ref (cs 1))
  e2 : mg "TooMany" = some (.ref (cs 2))
  e3 : mg "NoText" = some (.ref (cs 3))
  e4 : mg "NoTurn" = some (.ref (cs 4))
  e5 : mg "NoLetter" = some (.ref (cs 5))
  e6 : mg "NotThere" = some (.ref (cs 6))
  e7 : mg "NoStep" = some (.ref (cs 7))
  e8 : mg "NoLog" = some (.ref (cs 8))
  e9 : mg "NoWay" = some (.ref (cs 9))
  e10 : mg "NoPart" = some (.ref (cs 10))
  e11 : mg "NoAnswer" = some (.ref (cs 11))
  e12 : mg "NoAsk" = some (.ref (cs 12))
  e13 : mg "Twice" = some (.ref (cs 13))
  e14 : mg "NoDeed" = some (.ref (cs 14))
  e15 : mg "TurnError" = some (.ref (cs 15))
/-- the class at C is the j-th, of none other, under TurnError and ValueError -/
structure ErrK (K : PySem.W.Frag) (cs : Nat → Addr) (C : Addr) (j : Nat) : Prop where
  lt : j < 15
  ex : ExcC K C
  of : ∀ i, i < 15 → PySem.W.kitOne K (.ref C) (.ref (cs i)) = some (decide (i = j))
  ve : PySem.W.kitOne K (.ref C) (.type "ValueError") = some true
  tm : PySem.W.exmOne K (.ref C) (.ref (cs 15)) = some true
def errW : List Str := ["problem", "clause", "many", "text", "turn", "letter", "there", "step", "log", "road", "part", "answer", "ask", "twice", "deed"]
theorem p_isE {K : PySem.W.Frag} {σ : L2.St} {H : Hp} {Q : VK} {i : Nat} {a C c : Addr} {fs : List (Str × V)} {b : Bool} (h0 : σ[i]? = some (some (.ref a))) (ea : ErrAt H a C fs) (T : ExcC K C) (k : PySem.W.kitOne K (.ref C) (.ref c) = some b) (q : Q (.bl b) H) :
    tCB (rIsErr K) (tCons (tVar i) (tCons (tC (.ref c)) tNil)) σ H Q := ⟨.ref a, h0, a, C, fs, .ref c, .ref c, b, rfl, ea, T, .own c, k, q⟩
end Toy

-- part: LI1
/-! xs += ys of lists -/
namespace L2
open PySem PySem.Spec PySem.Calls PyProof.Rows
section
variable {M : Model} {A : Around} {E : Value → Shared → Prop} {s : Shared}
theorem inplace_iconcat {a b : Value} {T id : String} {Q : Value → Shared → Prop} (ha : s.TypeIs a T) (hb : s.TypeIs b T)
    (hl : typeLookup (.type T) (dunderI "add") = pure (some (.builtin id))) (hs : isSeqSlot (some (.builtin id)) = true) (hfill : fillsNumberSlot (.type T) "add" = pure false)
    (hc : wpAny M A (call (.builtin id) [a, b]) Q E s) : wpAny M A (inplaceOp .Add a b) Q E s := by
  unfold inplaceOp
  refine wpAny_holding ?_
  have hfi : fillsInplaceSlot (.type T) "add" (Operator.Add == .Add) = pure false := by
    unfold fillsInplaceSlot
    show (typeLookup (.type T) (dunderI "add") >>= fun fi => pure (fi.isSome && !isSeqSlot fi)) = pure false
    rw [hl]
    show (pure ((some (Value.builtin id)).isSome && !isSeqSlot (some (.builtin id))) : Sem Bool) = pure false
    rw [hs]
    rfl
  have hsi : seqSlot? (.type T) (dunderI "add") = pure (some (.builtin id)) := by
    simp only [seqSlot?, hl, pure_bind, hs]
    rfl
  refine wpAny_bind (wpAny_typeOf ha (wpAny_bind (wpAny_of_eq hfi ?_)))
  show wpAny M A (if false = true then _ else _) Q E s
  rw [if_neg Bool.false_ne_true]
  refine wpAny_bind (wpAny_binaryOp1_none (nm := "add") ha hb hfill ?_)
  refine wpAny_bind (wpAny_of_eq hsi ?_)
  exact wpAny_bind (wpAny_rule hc)
end
/-- the list itself, longer by the other's items -/
def ipCat : TIp := fun x y H Q => ∃ l b xs zs, x = .ref l ∧ y = .ref b ∧ H l = some (.lst xs) ∧ H b = some (.lst zs) ∧ xs.length + zs.length ≤ sizeLine ∧ Q (.ref l) (upd H l (.lst (xs ++ zs)))
theorem ip_cat {X : Cx} : PIp X .Add ipCat := by
  intro pins s σ H x y v u Q I rx ry h
  obtain ⟨l, b, xs, zs, rfl, rfl, hH, hB, hz, q⟩ := h
  cases rx
  cases ry
  obtain ⟨z, its, n, r, hl, e⟩ := I.lstM hH
  obtain ⟨z2, its2, n2, r2, hl2, e2⟩ := I.lstM hB
  have hsz : its.toArray.size + its2.toArray.size ≤ sizeLine := by rw [List.size_toArray, List.size_toArray]; omega
  have hlong : ¬ (!its.toArray.isEmpty && Builtin.List.listTooLong (its.toArray.size + its2.toArray.size)) = true := by
    rw [notLongL hsz, Bool.and_false]
    exact Bool.false_ne_true
  refine inplace_iconcat (T := "list") (id := "list.__iadd__") ⟨_, e, rfl⟩ ⟨_, e2, rfl⟩ F.slot_list_iadd.lookup (by decide +kernel) PySem.noFill_list_add ?_
  refine call_meets F.slot_list_iadd ⟨_, e, rfl⟩ F.entry_list_iadd (F.args_list_iadd_2 _ _)
    (AutoSeq1.list___iadd___list_list_0 l its.toArray n b its2.toArray n2 hlong (by rw [List.size_toArray]; omega) (by omega)) ⟨e, e2, ?_⟩
  refine ⟨.ref l, _, I.lset (its' := its ++ its2) hH e (by simp) (r.append r2) ?_, rfl, q⟩
  rw [List.length_append]
  omega
end L2

-- part: EXZ
namespace Toy
open PySem L2
/-! _law_word and _law_told of the laws about kinds -/
theorem pairGetZ {α β : Type} {R : α → β → Prop} : ∀ {a : List α} {b : List β}, Paired R a b → ∀ {i : Nat} {x : α}, a[i]? = some x → ∃ y, b[i]? = some y ∧ R x y
  | _, _, .nil, i, x, h => by simp at h
  | _, _, .cons h t, 0, x, e => by
    rw [List.getElem?_cons_zero] at e
    cases e
    exact ⟨_, rfl, h⟩
  | _, _, .cons h t, i + 1, x, e => by
    rw [List.getElem?_cons_succ] at e
    obtain ⟨y, hy, r⟩ := pairGetZ t e
    exact ⟨y, by rw [List.getElem?_cons_succ]; exact hy, r⟩
def zW : Nat → Str
  | 0 => "problem" | 1 => "clause" | 2 => "many" | 3 => "text" | 4 => "turn" | 5 => "letter" | 6 => "there" | 7 => "step" | 8 => "log" | 9 => "way" | 10 => "part" | 11 => "answer" | 12 => "ask" | 13 => "twice" | _ => "deed"
theorem zIn {j : Nat} (h : j < 15) : inV (V.str (zW j)) [V.str "clause", V.str "there", V.str "deed", V.str "log"] = decide (j = 1 ∨ j = 6 ∨ j = 14 ∨ j = 8) := by
  have : ∀ j : Fin 15, inV (V.str (zW j.val)) [V.str "clause", V.str "there", V.str "deed", V.str "log"] = decide (j.val = 1 ∨ j.val = 6 ∨ j.val = 14 ∨ j.val = 8) := by decide +kernel
  exact this ⟨j, h⟩
def zO : List Nat := [1, 6, 14, 8, 3, 4, 5, 7, 12, 11, 10, 9, 0, 2, 13]
theorem zO_one {j : Nat} (h : j < 15) : (zO.filter fun i => decide (i = j)) = [j] := by
  have : ∀ j : Fin 15, (zO.filter fun i => decide (i = j.val)) = [j.val] := by decide
  exact this ⟨j, h⟩
theorem _root_.Toy.ErrAt.sameE {H H' : Hp} {a C : Addr} {fs : List (Str × V)} (e : Same H H') : ErrAt H a C fs → ErrAt H' a C fs := fun ⟨d, h, k⟩ => ⟨d, e _ _ h, k.imp id fun ⟨dx, h1, h2⟩ => ⟨dx, h1, e _ _ h2⟩⟩
theorem p_mark {K : PySem.W.Frag} {σ : L2.St} {H : Hp} {Q : VK} {i : Nat} {a C c : Addr} {fs : List (Str × V)} {b : Bool} {w : Str} (h0 : σ[i]? = some (some (.ref a))) (ea : ErrAt H a C fs) (T : ExcC K C) (k : PySem.W.kitOne K (.ref C) (.ref c) = some b)
    (q : ∀ (p : Addr) (H' : Hp), Same H H' → H p = none → H' p = some (.tup [.str w, .bl b]) → Q (.ref p) H') : tTup (tCons (tC (.str w)) (tCons (tCB (rIsErr K) (tCons (tVar i) (tCons (tC (.ref c)) tNil))) tNil)) σ H Q :=
  p_isE h0 ea T k ⟨by show 2 ≤ sizeLine; decide, fun p hp => q p _ (Same.new hp) hp upd_same⟩
/-- the marks so far -/
def MkAt (j : Nat) (H : Hp) (ts : List Addr) (is : List Nat) : Prop := Paired (fun (t : Addr) (i : Nat) => H t = some (.tup [.str (zW i), .bl (decide (i = j))])) ts is
theorem MkAt.len {j : Nat} {H : Hp} {ts : List Addr} {is : List Nat} (h : MkAt j H ts is) : ts.length = is.length := pairLn h
theorem MkAt.same {j : Nat} {H H' : Hp} {ts : List Addr} {is : List Nat} (e : Same H H') (h : MkAt j H ts is) : MkAt j H' ts is := pairImp h fun _ _ h => e _ _ h
theorem MkAt.up {j : Nat} {H : Hp} {ts : List Addr} {is : List Nat} {l : Addr} {xs : List V} {o : HO} (h : MkAt j H ts is) (hl : H l = some (.lst xs)) : MkAt j (upd H l o) ts is := pairImp h fun t _ h => by rw [upd_ne (fun z => by rw [z, hl] at h; cases h)]; exact h
theorem MkAt.app {j : Nat} {H : Hp} {ts : List Addr} {is : List Nat} {t1 t2 t3 : Addr} {a b c : Nat} (h : MkAt j H ts is) (h1 : H t1 = some (.tup [.str (zW a), .bl (decide (a = j))])) (h2 : H t2 = some (.tup [.str (zW b), .bl (decide (b = j))])) (h3 : H t3 = some (.tup [.str (zW c), .bl (decide (c = j))])) :
    MkAt j H (ts ++ [t1, t2, t3]) (is ++ [a, b, c]) := by
  have := pairSnoc (pairSnoc (pairSnoc h h1) h2) h3
  rw [List.append_assoc, List.append_assoc, List.append_assoc, List.append_assoc] at this
  exact this
section
variable {P : Program} {w : World} {K : PySem.W.Frag} {mg : Str → Option Value} {base : Heap} {cs : Nat → Addr}
abbrev sLWz : Stmt := s__law_word
abbrev nLWz : List Str := ["e", "marks", "found", "word", "is_one"]
theorem scLWz : FnScope nLWz ["e"] (defScope sLWz) := ⟨rfl, rfl, rfl, by decide +kernel, rfl, by decide +kernel, by decide +kernel⟩
def tLWz_1 : TT := tB (tVar 4)
/-- what is told beside the word: of four kinds of errors their at -/
def ZAt (K : PySem.W.Frag) (C : Addr) (fs : List (Str × V)) (j : Nat) (v : V) : Prop :=
  ((j = 1 ∨ j = 6 ∨ j = 14 ∨ j = 8) → fs.lookup ("at" : Str) = some v ∧ XfC K C ∧ PySem.W.findIn K (.ref C) "at" = some none) ∧ (¬ (j = 1 ∨ j = 6 ∨ j = 14 ∨ j = 8) → v = .non)
def spLWz (K : PySem.W.Frag) (cs : Nat → Addr) : Sp := fun vs H Q _ => ∃ (a C : Addr) (fs : List (Str × V)) (j : Nat) (v : V), vs = [.ref a] ∧ ErrAt H a C fs ∧ ErrK K cs C j ∧ PySem.W.kitOne K (.ref C) (.ref (cs 15)) = some true ∧ ZAt K C fs j v ∧ ∀ (p : Addr) (H' : Hp), Same H H' → H p = none → H' p = some (.tup [.str (zW j), v]) → Q (.ref p) H'
theorem ok_lwz {f : Addr} {fd : FuncData} (F : Fun K "_law_word" "_law_word" sLWz f fd) (B : Bl mg) (R : Errs mg cs) : FnOk P w K mg base CX0 1 f fd ["e"] (spLWz K cs) := by
  refine F.ok scLWz (fun vs H Q E h => ?_) (fun cdv A outer s H vs Q E hr h => ?_)
  · obtain ⟨a, C, fs, j, v, rfl, _⟩ := h
    rfl
  · obtain ⟨a, C, fs, j, v, rfl, ea, EK, kT, zat, q⟩ := h
    refine ⟨_, pss_cons (ps_set (i := 1) scLWz.nd rfl (Or.inl rfl) (pe_lst (pa_cons (pe_tup (pa_cons pe_str (pa_cons (pe_callB call_isErr (by rfl) B.isinstance (by decide +kernel) (pa_cons (pv 0) (pa_cons (pe_glob rfl R.e1 (v := .ref (cs 1)) rfl) pa_nil))) pa_nil))) (pa_cons (pe_tup (pa_cons pe_str (pa_cons (pe_callB call_isErr (by rfl) B.isinstance (by decide +kernel) (pa_cons (pv 0) (pa_cons (pe_glob rfl R.e6 (v := .ref (cs 6)) rfl) pa_nil))) pa_nil))) pa_nil))))
      (pss_cons (ps_aug (i := 1) scLWz.nd rfl (Or.inl rfl) (pe_lst (pa_cons (pe_tup (pa_cons pe_str (pa_cons (pe_callB call_isErr (by rfl) B.isinstance (by decide +kernel) (pa_cons (pv 0) (pa_cons (pe_glob rfl R.e14 (v := .ref (cs 14)) rfl) pa_nil))) pa_nil))) (pa_cons (pe_tup (pa_cons pe_str (pa_cons (pe_callB call_isErr (by rfl) B.isinstance (by decide +kernel) (pa_cons (pv 0) (pa_cons (pe_glob rfl R.e8 (v := .ref (cs 8)) rfl) pa_nil))) pa_nil))) (pa_cons (pe_tup (pa_cons pe_str (pa_cons (pe_callB call_isErr (by rfl) B.isinstance (by decide +kernel) (pa_cons (pv 0) (pa_cons (pe_glob rfl R.e3 (v := .ref (cs 3)) rfl) pa_nil))) pa_nil))) pa_nil)))) ip_cat)
      (pss_cons (ps_aug (i := 1) scLWz.nd rfl (Or.inl rfl) (pe_lst (pa_cons (pe_tup (pa_cons pe_str (pa_cons (pe_callB call_isErr (by rfl) B.isinstance (by decide +kernel) (pa_cons (pv 0) (pa_cons (pe_glob rfl R.e4 (v := .ref (cs 4)) rfl) pa_nil))) pa_nil))) (pa_cons (pe_tup (pa_cons pe_str (pa_cons (pe_callB call_isErr (by rfl) B.isinstance (by decide +kernel) (pa_cons (pv 0) (pa_cons (pe_glob rfl R.e5 (v := .ref (cs 5)) rfl) pa_nil))) pa_nil))) (pa_cons (pe_tup (pa_cons pe_str (pa_cons (pe_callB call_isErr (by rfl) B.isinstance (by decide +kernel) (pa_cons (pv 0) (pa_cons (pe_glob rfl R.e7 (v := .ref (cs 7)) rfl) pa_nil))) pa_nil))) pa_nil)))) ip_cat)
      (pss_cons (ps_aug (i := 1) scLWz.nd rfl (Or.inl rfl) (pe_lst (pa_cons (pe_tup (pa_cons pe_str (pa_cons (pe_callB call_isErr (by rfl) B.isinstance (by decide +kernel) (pa_cons (pv 0) (pa_cons (pe_glob rfl R.e12 (v := .ref (cs 12)) rfl) pa_nil))) pa_nil))) (pa_cons (pe_tup (pa_cons pe_str (pa_cons (pe_callB call_isErr (by rfl) B.isinstance (by decide +kernel) (pa_cons (pv 0) (pa_cons (pe_glob rfl R.e11 (v := .ref (cs 11)) rfl) pa_nil))) pa_nil))) (pa_cons (pe_tup (pa_cons pe_str (pa_cons (pe_callB call_isErr (by rfl) B.isinstance (by decide +kernel) (pa_cons (pv 0) (pa_cons (pe_glob rfl R.e10 (v := .ref (cs 10)) rfl) pa_nil))) pa_nil))) pa_nil)))) ip_cat)
      (pss_cons (ps_aug (i := 1) scLWz.nd rfl (Or.inl rfl) (pe_lst (pa_cons (pe_tup (pa_cons pe_str (pa_cons (pe_callB call_isErr (by rfl) B.isinstance (by decide +kernel) (pa_cons (pv 0) (pa_cons (pe_glob rfl R.e9 (v := .ref (cs 9)) rfl) pa_nil))) pa_nil))) (pa_cons (pe_tup (pa_cons pe_str (pa_cons (pe_callB call_isErr (by rfl) B.isinstance (by decide +kernel) (pa_cons (pv 0) (pa_cons (pe_glob rfl R.e0 (v := .ref (cs 0)) rfl) pa_nil))) pa_nil))) (pa_cons (pe_tup (pa_cons pe_str (pa_cons (pe_callB call_isErr (by rfl) B.isinstance (by decide +kernel) (pa_cons (pv 0) (pa_cons (pe_glob rfl R.e2 (v := .ref (cs 2)) rfl) pa_nil))) pa_nil))) pa_nil)))) ip_cat)
      (pss_cons (ps_setLc (i := 2) (own := [("word", 3), ("is_one", 4)]) (g := gTup K 2 (gCons (gName 3) (gCons (gName 4) gNil))) (tt := tLWz_1) (te := tVar 3) rfl scLWz.nd rfl rfl (sw_true rfl rfl rfl (by decide +kernel)) (pi_list (pe_op op_cat (pv 1) (pe_lst (pa_cons (pe_tup (pa_cons pe_str (pa_cons (pe_callB call_isErr (by rfl) B.isinstance (by decide +kernel) (pa_cons (pv 0) (pa_cons (pe_glob rfl R.e13 (v := .ref (cs 13)) rfl) pa_nil))) pa_nil))) pa_nil)))) (blkOk_by (own := [("word", 3), ("is_one", 4)]) (N := nLWz) (sc := (defScope sLWz)) (by decide +kernel)) (fun _ _ _ _ _ => pg_tup rfl (pgs_cons (pg_name (i := 3) scLWz.nd rfl (Or.inl rfl)) (pgs_cons (pg_name (i := 4) scLWz.nd rfl (Or.inl rfl)) pgs_nil))) (fun _ _ _ _ _ => pts_one (pt_val (pv 4))) (fun _ _ _ _ _ => pv 3))
      (pss_cons (ps_if (PW.pt (pw_or (pt_cmpR op_ne (pe_callB call_len_seq (by rfl) B.len PySem.boot_len (pa_cons (pv 2) pa_nil)) pe_int (nomark _)) (pw_or (pt_not (pt_val (pe_callB call_isErr (by rfl) B.isinstance (by decide +kernel) (pa_cons (pv 0) (pa_cons (pe_glob rfl R.e15 (v := .ref (cs 15)) rfl) pa_nil))))) (pw_or1 (pt_not (pt_val (pe_callB call_isErr (by rfl) B.isinstance (by decide +kernel) (pa_cons (pv 0) (pa_cons (pe_bltn (v := .ty "ValueError") (by rfl) B.ValueError (by decide +kernel) rfl) pa_nil))))))))) (pss_one (ps_ret (pe_tup (pa_cons pe_str (pa_cons pe_non pa_nil))))) pss_nil)
      (pss_one (ps_ret (pe_tup (pa_cons (pe_ix ix_list (pv 2) pe_int (fun _ _ => rfl)) (pa_cons (pe_ifExp (pt_cmpR op_in_seq (pe_ix ix_list (pv 2) pe_int (fun _ _ => rfl)) (pe_tup (pa_cons pe_str (pa_cons pe_str (pa_cons pe_str (pa_cons pe_str pa_nil))))) rfl) (pe_errF (pv 0)) pe_non) pa_nil))))))))))), ?_⟩
    show tSeq _ _ _ [some (.ref a), none, none, none, none] H
    have kk := EK.of
    have eZ : sizeLine = 16777216 := rfl
    refine seq_gen (fun σ' H' => ∃ (l : Addr) (ts : List Addr), σ' = [some (.ref a), some (.ref l), none, none, none] ∧ Same H H' ∧ H l = none ∧ H' l = some (.lst (ts.map V.ref)) ∧ MkAt j H' ts [1, 6]) (fun nx hnx => ?_) ?_
    · skip
      refine p_isE rfl (ea) EK.ex (kk 1 (by decide)) ⟨by show 2 ≤ sizeLine; decide, fun t1 n1 => ?_⟩
      have u1 := Same.new (o := .tup [V.str "clause", V.bl (decide (1 = j))]) n1
      have q1 := upd_same (H := H) (a := t1) (o := .tup [V.str "clause", V.bl (decide (1 = j))])
      generalize upd H t1 (.tup [V.str "clause", V.bl (decide (1 = j))]) = G1 at *
      refine p_isE rfl (ErrAt.sameE u1 ea) EK.ex (kk 6 (by decide)) ⟨by show 2 ≤ sizeLine; decide, fun t2 n2 => ?_⟩
      have u2 := Same.new (o := .tup [V.str "there", V.bl (decide (6 = j))]) n2
      have q2 := upd_same (H := G1) (a := t2) (o := .tup [V.str "there", V.bl (decide (6 = j))])
      generalize upd G1 t2 (.tup [V.str "there", V.bl (decide (6 = j))]) = G2 at *
      exact ⟨by show 2 ≤ sizeLine; decide, fun l hl => hnx _ _ ⟨l, [t1, t2], rfl, Same.trans u1 (Same.trans u2 (Same.new hl)), Same.nn (Same.trans u1 u2) hl, upd_same, .cons (Same.new hl _ _ (u2 _ _ q1)) (.cons (Same.new hl _ _ q2) .nil)⟩⟩
    rintro σ1 H1 ⟨l, ts1, rfl, s1, nl, hl1, m1⟩
    refine seq_gen (fun σ' H' => ∃ (ts : List Addr), σ' = [some (.ref a), some (.ref l), none, none, none] ∧ Same H H' ∧ H' l = some (.lst (ts.map V.ref)) ∧ MkAt j H' ts [1, 6, 14, 8, 3]) (fun nx hnx => ?_) ?_
    · have ea1 := ErrAt.sameE s1 ea
      have lt := m1.len
      refine ⟨.ref l, rfl, ?_⟩
      refine p_isE rfl (ea1) EK.ex (kk 14 (by decide)) ⟨by show 2 ≤ sizeLine; decide, fun t1 n1 => ?_⟩
      have u1 := Same.new (o := .tup [V.str "deed", V.bl (decide (14 = j))]) n1
      have q1 := upd_same (H := H1) (a := t1) (o := .tup [V.str "deed", V.bl (decide (14 = j))])
      generalize upd H1 t1 (.tup [V.str "deed", V.bl (decide (14 = j))]) = G1 at *
      refine p_isE rfl (ErrAt.sameE u1 ea1) EK.ex (kk 8 (by decide)) ⟨by show 2 ≤ sizeLine; decide, fun t2 n2 => ?_⟩
      have u2 := Same.new (o := .tup [V.str "log", V.bl (decide (8 = j))]) n2
      have q2 := upd_same (H := G1) (a := t2) (o := .tup [V.str "log", V.bl (decide (8 = j))])
      generalize upd G1 t2 (.tup [V.str "log", V.bl (decide (8 = j))]) = G2 at *
      refine p_isE rfl (ErrAt.sameE u2 (ErrAt.sameE u1 ea1)) EK.ex (kk 3 (by decide)) ⟨by show 2 ≤ sizeLine; decide, fun t3 n3 => ?_⟩
      have u3 := Same.new (o := .tup [V.str "text", V.bl (decide (3 = j))]) n3
      have q3 := upd_same (H := G2) (a := t3) (o := .tup [V.str "text", V.bl (decide (3 = j))])
      generalize upd G2 t3 (.tup [V.str "text", V.bl (decide (3 = j))]) = G3 at *
      refine ⟨by show 3 ≤ sizeLine; decide, fun z hz => ?_⟩
      have sz := Same.new (o := .lst [V.ref t1, V.ref t2, V.ref t3]) hz
      have sx := Same.trans u1 (Same.trans u2 (Same.trans u3 sz))
      have hl4 := sx _ _ hl1
      refine ⟨l, z, _, _, rfl, rfl, hl4, upd_same, by rw [List.length_map, lt]; show (5 : Nat) ≤ sizeLine; omega, hnx _ _ ⟨ts1 ++ [t1, t2, t3], rfl, Same.upN (Same.trans s1 sx) nl, by rw [upd_same, List.map_append]; rfl, ?_⟩⟩
      exact ((m1.same sx).app (sz _ _ (u3 _ _ (u2 _ _ q1))) (sz _ _ (u3 _ _ q2)) (sz _ _ q3)).up hl4
    rintro σ2 H2 ⟨ts2, rfl, s2, hl2, m2⟩
    refine seq_gen (fun σ' H' => ∃ (ts : List Addr), σ' = [some (.ref a), some (.ref l), none, none, none] ∧ Same H H' ∧ H' l = some (.lst (ts.map V.ref)) ∧ MkAt j H' ts [1, 6, 14, 8, 3, 4, 5, 7]) (fun nx hnx => ?_) ?_
    · have ea1 := ErrAt.sameE s2 ea
      have lt := m2.len
      refine ⟨.ref l, rfl, ?_⟩
      refine p_isE rfl (ea1) EK.ex (kk 4 (by decide)) ⟨by show 2 ≤ sizeLine; decide, fun t1 n1 => ?_⟩
      have u1 := Same.new (o := .tup [V.str "turn", V.bl (decide (4 = j))]) n1
      have q1 := upd_same (H := H2) (a := t1) (o := .tup [V.str "turn", V.bl (decide (4 = j))])
      generalize upd H2 t1 (.tup [V.str "turn", V.bl (decide (4 = j))]) = G1 at *
      refine p_isE rfl (ErrAt.sameE u1 ea1) EK.ex (kk 5 (by decide)) ⟨by show 2 ≤ sizeLine; decide, fun t2 n2 => ?_⟩
      have u2 := Same.new (o := .tup [V.str "letter", V.bl (decide (5 = j))]) n2
      have q2 := upd_same (H := G1) (a := t2) (o := .tup [V.str "letter", V.bl (decide (5 = j))])
      generalize upd G1 t2 (.tup [V.str "letter", V.bl (decide (5 = j))]) = G2 at *
      refine p_isE rfl (ErrAt.sameE u2 (ErrAt.sameE u1 ea1)) EK.ex (kk 7 (by decide)) ⟨by show 2 ≤ sizeLine; decide, fun t3 n3 => ?_⟩
      have u3 := Same.new (o := .tup [V.str "step", V.bl (decide (7 = j))]) n3
      have q3 := upd_same (H := G2) (a := t3) (o := .tup [V.str "step", V.bl (decide (7 = j))])
      generalize upd G2 t3 (.tup [V.str "step", V.bl (decide (7 = j))]) = G3 at *
      refine ⟨by show 3 ≤ sizeLine; decide, fun z hz => ?_⟩
      have sz := Same.new (o := .lst [V.ref t1, V.ref t2, V.ref t3]) hz
      have sx := Same.trans u1 (Same.trans u2 (Same.trans u3 sz))
      have hl4 := sx _ _ hl2
      refine ⟨l, z, _, _, rfl, rfl, hl4, upd_same, by rw [List.length_map, lt]; show (8 : Nat) ≤ sizeLine; omega, hnx _ _ ⟨ts2 ++ [t1, t2, t3], rfl, Same.upN (Same.trans s2 sx) nl, by rw [upd_same, List.map_append]; rfl, ?_⟩⟩
      exact ((m2.same sx).app (sz _ _ (u3 _ _ (u2 _ _ q1))) (sz _ _ (u3 _ _ q2)) (sz _ _ q3)).up hl4
    rintro σ3 H3 ⟨ts3, rfl, s3, hl3, m3⟩
    refine seq_gen (fun σ' H' => ∃ (ts : List Addr), σ' = [some (.ref a), some (.ref l), none, none, none] ∧ Same H H' ∧ H' l = some (.lst (ts.map V.ref)) ∧ MkAt j H' ts [1, 6, 14, 8, 3, 4, 5, 7, 12, 11, 10]) (fun nx hnx => ?_) ?_
    · have ea1 := ErrAt.sameE s3 ea
      have lt := m3.len
      refine ⟨.ref l, rfl, ?_⟩
      refine p_isE rfl (ea1) EK.ex (kk 12 (by decide)) ⟨by show 2 ≤ sizeLine; decide, fun t1 n1 => ?_⟩
      have u1 := Same.new (o := .tup [V.str "ask", V.bl (decide (12 = j))]) n1
      have q1 := upd_same (H := H3) (a := t1) (o := .tup [V.str "ask", V.bl (decide (12 = j))])
      generalize upd H3 t1 (.tup [V.str "ask", V.bl (decide (12 = j))]) = G1 at *
      refine p_isE rfl (ErrAt.sameE u1 ea1) EK.ex (kk 11 (by decide)) ⟨by show 2 ≤ sizeLine; decide, fun t2 n2 => ?_⟩
      have u2 := Same.new (o := .tup [V.str "answer", V.bl (decide (11 = j))]) n2
      have q2 := upd_same (H := G1) (a := t2) (o := .tup [V.str "answer", V.bl (decide (11 = j))])
      generalize upd G1 t2 (.tup [V.str "answer", V.bl (decide (11 = j))]) = G2 at *
      refine p_isE rfl (ErrAt.sameE u2 (ErrAt.sameE u1 ea1)) EK.ex (kk 10 (by decide)) ⟨by show 2 ≤ sizeLine; decide, fun t3 n3 => ?_⟩
      have u3 := Same.new (o := .tup [V.str "part", V.bl (decide (10 = j))]) n3
      have q3 := upd_same (H := G2) (a := t3) (o := .tup [V.str "part", V.bl (decide (10 = j))])
      generalize upd G2 t3 (.tup [V.str "part", V.bl (decide (10 = j))]) = G3 at *
      refine ⟨by show 3 ≤ sizeLine; decide, fun z hz => ?_⟩
      have sz := Same.new (o := .lst [V.ref t1, V.ref t2, V.ref t3]) hz
      have sx := Same.trans u1 (Same.trans u2 (Same.trans u3 sz))
      have hl4 := sx _ _ hl3
      refine ⟨l, z, _, _, rfl, rfl, hl4, upd_same, by rw [List.length_map, lt]; show (11 : Nat) ≤ sizeLine; omega, hnx _ _ ⟨ts3 ++ [t1, t2, t3], rfl, Same.upN (Same.trans s3 sx) nl, by rw [upd_same, List.map_append]; rfl, ?_⟩⟩
      exact ((m3.same sx).app (sz _ _ (u3 _ _ (u2 _ _ q1))) (sz _ _ (u3 _ _ q2)) (sz _ _ q3)).up hl4
    rintro σ4 H4 ⟨ts4, rfl, s4, hl4, m4⟩
    refine seq_gen (fun σ' H' => ∃ (ts : List Addr), σ' = [some (.ref a), some (.ref l), none, none, none] ∧ Same H H' ∧ H' l = some (.lst (ts.map V.ref)) ∧ MkAt j H' ts [1, 6, 14, 8, 3, 4, 5, 7, 12, 11, 10, 9, 0, 2]) (fun nx hnx => ?_) ?_
    · have ea1 := ErrAt.sameE s4 ea
      have lt := m4.len
      refine ⟨.ref l, rfl, ?_⟩
      refine p_isE rfl (ea1) EK.ex (kk 9 (by decide)) ⟨by show 2 ≤ sizeLine; decide, fun t1 n1 => ?_⟩
      have u1 := Same.new (o := .tup [V.str "way", V.bl (decide (9 = j))]) n1
      have q1 := upd_same (H := H4) (a := t1) (o := .tup [V.str "way", V.bl (decide (9 = j))])
      generalize upd H4 t1 (.tup [V.str "way", V.bl (decide (9 = j))]) = G1 at *
      refine p_isE rfl (ErrAt.sameE u1 ea1) EK.ex (kk 0 (by decide)) ⟨by show 2 ≤ sizeLine; decide, fun t2 n2 => ?_⟩
      have u2 := Same.new (o := .tup [V.str "problem", V.bl (decide (0 = j))]) n2
      have q2 := upd_same (H := G1) (a := t2) (o := .tup [V.str "problem", V.bl (decide (0 = j))])
      generalize upd G1 t2 (.tup [V.str "problem", V.bl (decide (0 = j))]) = G2 at *
      refine p_isE rfl (ErrAt.sameE u2 (ErrAt.sameE u1 ea1)) EK.ex (kk 2 (by decide)) ⟨by show 2 ≤ sizeLine; decide, fun t3 n3 => ?_⟩
      have u3 := Same.new (o := .tup [V.str "many", V.bl (decide (2 = j))]) n3
      have q3 := upd_same (H := G2) (a := t3) (o := .tup [V.str "many", V.bl (decide (2 = j))])
      generalize upd G2 t3 (.tup [V.str "many", V.bl (decide (2 = j))]) = G3 at *
      refine ⟨by show 3 ≤ sizeLine; decide, fun z hz => ?_⟩
      have sz := Same.new (o := .lst [V.ref t1, V.ref t2, V.ref t3]) hz
      have sx := Same.trans u1 (Same.trans u2 (Same.trans u3 sz))
      have hl4 := sx _ _ hl4
      refine ⟨l, z, _, _, rfl, rfl, hl4, upd_same, by rw [List.length_map, lt]; show (14 : Nat) ≤ sizeLine; omega, hnx _ _ ⟨ts4 ++ [t1, t2, t3], rfl, Same.upN (Same.trans s4 sx) nl, by rw [upd_same, List.map_append]; rfl, ?_⟩⟩
      exact ((m4.same sx).app (sz _ _ (u3 _ _ (u2 _ _ q1))) (sz _ _ (u3 _ _ q2)) (sz _ _ q3)).up hl4
    rintro σ5 H5 ⟨ts5, rfl, s5, hl5, m5⟩
    refine seq_gen (fun σ' H' => ∃ (fo : Addr), σ' = [some (.ref a), some (.ref l), some (.ref fo), none, none] ∧ Same H H' ∧ H' fo = some (.lst [.str (zW j)])) (fun nx hnx => ?_) ?_
    · have ea1 := ErrAt.sameE s5 ea
      have lt := m5.len
      refine ⟨.ref l, rfl, ?_⟩
      refine p_isE rfl (ea1) EK.ex (kk 13 (by decide)) ⟨by show 2 ≤ sizeLine; decide, fun t1 n1 => ?_⟩
      have u1 := Same.new (o := .tup [V.str "twice", V.bl (decide (13 = j))]) n1
      have q1 := upd_same (H := H5) (a := t1) (o := .tup [V.str "twice", V.bl (decide (13 = j))])
      generalize upd H5 t1 (.tup [V.str "twice", V.bl (decide (13 = j))]) = G1 at *
      refine ⟨by show 1 ≤ sizeLine; decide, fun z hz => ?_⟩
      have sz := Same.new (o := .lst [V.ref t1]) hz
      have sx := Same.trans u1 sz
      have hl6 := sx _ _ hl5
      have hz1 := upd_same (H := G1) (a := z) (o := .lst [V.ref t1])
      have m6 : MkAt j (upd G1 z (.lst [V.ref t1])) (ts5 ++ [t1]) zO := pairSnoc (m5.same sx) (sz _ _ q1)
      generalize upd G1 z (.lst [V.ref t1]) = G2 at *
      refine ⟨l, z, _, _, rfl, rfl, hl6, hz1, by rw [List.length_map, lt]; show (15 : Nat) ≤ sizeLine; omega, fun y hy => ?_⟩
      have sy := Same.new (o := .lst (ts5.map V.ref ++ [V.ref t1])) hy
      have hy1 : upd G2 y (.lst (ts5.map V.ref ++ [V.ref t1])) y = some (.lst ((ts5 ++ [t1]).map V.ref)) := by rw [upd_same, List.map_append]; rfl
      have m7 := m6.same sy
      have s7 := Same.trans s5 (Same.trans sx sy)
      generalize upd G2 y (.lst (ts5.map V.ref ++ [V.ref t1])) = G3 at *
      refine ⟨y, rfl, ⟨_, SqL.of hy1⟩, fun D hD => lc_gen (walk_list (K := K) (a := y) (xs := (ts5 ++ [t1]).map V.ref)) (R := fun (i : Nat) v _ => v = V.str (zW i)) (I := fun _ => True) (zs := []) (xs := zO) (kp := fun i => decide (i = j)) (by rw [List.length_map]; exact m7.len.symm) (by show (15 : Nat) < sizeLine; omega) hD (fun z => nomatch z) trivial (fun _ _ _ _ => trivial) (fun H2 b _ => SqL.of (b.same _ _ hy1)) ?_ fun H2 ys b _ hys pr => ?_⟩
      · rintro i k x Hz H2 T F' hk b _ ⟨acc, hacc⟩ ⟨rfl, hx⟩ hT hF
        rw [List.getElem?_map] at hx
        obtain ⟨t, ht, rfl⟩ := Option.map_eq_some_iff.mp hx
        obtain ⟨k', hk', htk⟩ := pairGetZ m7 ht
        rw [hk] at hk'
        cases hk'
        refine ⟨t, _, rfl, SqT.of (b.same _ _ htk), rfl, _, _, rfl, _, _, rfl, rfl, rfl, ?_⟩
        refine ⟨_, rfl, _, rfl, ?_⟩
        by_cases c : k = j
        · rw [decide_eq_true c]
          exact iteT ⟨_, rfl, hT _ _ (decide_eq_true c) .refl trivial fun _ _ => rfl⟩
        · rw [decide_eq_false c]
          exact iteF (hF _ (decide_eq_false c) .refl trivial)
      · rw [zO_one EK.lt] at pr
        cases pr with
        | cons h t =>
          cases t
          subst h
          exact hnx _ _ ⟨D, rfl, Same.trans s7 b.same, hys⟩
    rintro σ6 H6 ⟨fo, rfl, s6, hfo⟩
    have ea6 := ErrAt.sameE s6 ea
    refine seq_gen (fun σ' H' => σ' = [some (.ref a), some (.ref l), some (.ref fo), none, none] ∧ H' = H6) (fun nx hnx => ?_) ?_
    · refine ⟨_, rfl, fo, _, rfl, .inl (SqL.of hfo), rfl, false, rfl, iteF ?_⟩
      refine p_isE rfl ea6 EK.ex kT ⟨true, rfl, iteF ?_⟩
      exact ⟨.ref a, rfl, a, C, fs, .ty "ValueError", .type "ValueError", true, rfl, ea6, EK.ex, .ty _, EK.ve, true, rfl, iteF (hnx _ _ ⟨rfl, rfl⟩)⟩
    rintro σ7 H7 ⟨rfl, rfl⟩
    refine ⟨_, rfl, fo, _, 0, _, rfl, rfl, SqL.of hfo, rfl, ?_⟩
    refine ⟨_, rfl, fo, _, 0, _, rfl, rfl, SqL.of hfo, rfl, by show 4 ≤ sizeLine; decide, fun tp ntp => ⟨tp, _, rfl, .inr (SqT.of upd_same), rfl, rfl, ?_⟩⟩
    have st := Same.new (o := .tup [V.str "clause", V.str "there", V.str "deed", V.str "log"]) ntp
    have s7 := Same.trans s6 st
    have ea7 := ErrAt.sameE s7 ea
    generalize upd H7 tp (.tup [V.str "clause", V.str "there", V.str "deed", V.str "log"]) = H8 at *
    have fin : ∀ p, H8 p = none → Q (.ref p) (upd H8 p (.tup [.str (zW j), v])) := fun p hp => q p _ (Same.trans s7 (Same.new hp)) (Same.nn s7 hp) upd_same
    rw [if_neg Bool.false_ne_true, zIn EK.lt]
    by_cases c : j = 1 ∨ j = 6 ∨ j = 14 ∨ j = 8
    · obtain ⟨h1, h2, h3⟩ := zat.1 c
      rw [decide_eq_true c]
      exact ⟨true, rfl, iteT ⟨.ref a, rfl, a, C, fs, v, rfl, ea7, h2, h3, h1, by show 2 ≤ sizeLine; decide, fin⟩⟩
    · rw [decide_eq_false c]
      have hv := zat.2 c
      subst hv
      exact ⟨false, rfl, iteF ⟨by show 2 ≤ sizeLine; decide, fin⟩⟩
/-! ### _law_told -/
abbrev sLTz : Stmt := s__law_told
abbrev nLTz : List Str := ["work", "error", "found", "e"]
theorem scLTz : FnScope nLTz ["work"] (defScope sLTz) := ⟨rfl, rfl, rfl, by decide +kernel, rfl, by decide +kernel, by decide +kernel⟩

def rIsNz : R2 := fun x y H Q => y = .non ∧ Q (.bl (decide (x = .non))) H
/-- _law_told behind its try -/
def zRest (K : PySem.W.Frag) (cs : Nat → Addr) : TS := tRet (tIf (tTest (tOp rIsNz (tVar 1) (tC .non))) (tTup (tCons (tC (.str "told")) (tCons (tVar 2) tNil))) (tCall (spLWz K cs) [] E0 (tCons (tVar 1) tNil)))
def zEnd (Q : VK) : Ends := { nx := fun _ H' => Q .non H', rt := Q }
def Ezf (K : PySem.W.Frag) (cs : Nat → Addr) (Q : VK) : XK := fun cls d H' => ∀ σ' : St, σ'.length = 4 → wKeep K (.ref (cs 15)) 3 (fun _ _ _ => tAsg (tVar 3) (gName 1)) (fun _ _ _ _ => False) { nx := zRest K cs (zEnd Q), rt := Q } cls d σ' H'
def Rzf (K : PySem.W.Frag) (cs : Nat → Addr) (Q : VK) (f : Addr) : VK := fun v H' => zRest K cs (zEnd Q) [some (.ref f), some .non, some v, none] H'
/-- what _law_told makes of a lambda -/
def TTz (K : PySem.W.Frag) (cs : Nat → Addr) : (XK → Hp → VK → Prop) → Hp → VK → Prop := fun tl H Q => ∀ f p : Addr, H p = none → tl (Ezf K cs Q) (upd H p (.tup [.non, .non])) (Rzf K cs Q f)
theorem rzf_of {K : PySem.W.Frag} {cs : Nat → Addr} {Q : VK} {f : Addr} {v : V} {H : Hp} (q : ∀ p, H p = none → Q (.ref p) (upd H p (.tup [.str "told", v]))) : Rzf K cs Q f v H := by
  unfold Rzf zRest
  refine ⟨_, rfl, rfl, true, rfl, iteT ⟨_, rfl, by show 2 ≤ sizeLine; decide, fun p hp => q p hp⟩⟩
theorem ezf_of {K : PySem.W.Frag} {cs : Nat → Addr} {Q : VK} {C : Addr} {d : Option Addr} {fs : List (Str × V)} {j : Nat} {v : V} {H : Hp} (EK : ErrK K cs C j) (kT : PySem.W.kitOne K (.ref C) (.ref (cs 15)) = some true) (ha : ZAt K C fs j v) (hd : (d = none ∧ fs = []) ∨ ∃ dx, d = some dx ∧ H dx = some (.xd fs))
    (q : ∀ (H2 : Hp) (p : Addr), Same H H2 → H p = none → H2 p = some (.tup [.str (zW j), v]) → Q (.ref p) H2) : Ezf K cs Q (.ref C) d H := by
  intro σ' hl
  refine ⟨true, EK.tm, fun z => (nomatch z), fun _ a na => ?_⟩
  match σ', hl with
  | [x0, x1, x2, x3], _ =>
    refine ⟨.ref a, rfl, ?_⟩
    show zRest K cs (zEnd Q) [x0, some (.ref a), x2, none] (upd H a (ErrO (.ref C) d a))
    have ea : ErrAt (upd H a (ErrO (.ref C) d a)) a C fs := ⟨d, upd_same, hd.imp id fun ⟨dx, h1, h2⟩ => ⟨dx, h1, by rw [upd_ne (ne_of_none h2 na)]; exact h2⟩⟩
    have s1 := Same.new (o := ErrO (.ref C) d a) na
    generalize upd H a (ErrO (.ref C) d a) = H1 at *
    refine ⟨_, rfl, rfl, false, rfl, iteF ⟨_, rfl, a, C, fs, j, v, rfl, ea, EK, kT, ha, fun p H2 s2 np hp => q H2 p (Same.trans s1 s2) (Same.nn s1 np) hp⟩⟩
theorem takes_lenZ {X : Cx} {W : WX} (tk : Takes X W) : Takes X (fun cls d σ H => σ.length = X.N.length → W cls d σ H) := fun u s' ⟨a, B, sI, pins, σ, H, cls, d, e, I, nb, up, sky, na, os, ag, w⟩ =>
  tk u s' ⟨a, B, sI, pins, σ, H, cls, d, e, I, nb, up, sky, na, os, ag, w I.len⟩
theorem toldz_gives {X : Cx} {fWo g : Addr} {fdWo : FuncData} {cdg : Value} {q : Str} (hK : X.K = K) (hrX : Room 3 X.A) (R : Errs X.mg cs) (WO : Df X.K X.mg "_law_word" sLWz ["e"] fWo fdWo) (GWo : FnOk X.prog X.w X.K X.mg X.base CX0 1 fWo fdWo ["e"] (spLWz X.K cs)) :
    LamX.GivesTo X nLTz "_law_told" (defScope sLTz) g cdg (defBody sLTz) "work" q (TTz X.K cs) := by
  intro f c' s H Q tl act hc h
  have hr : Room 2 (X.A.deeper (PyProof.Rows.envOfC "_law_told" (defScope sLTz) s.heap.objs.size g cdg)) := hrX.deeper _
  refine ⟨_, pss_cons (ps_asg (pe_tup (pa_cons pe_non (pa_cons pe_non pa_nil))) (pg_tup rfl (pgs_cons (pg_name (i := 1) scLTz.nd rfl (Or.inl rfl)) (pgs_cons (pg_name (i := 2) scLTz.nd rfl (Or.inl rfl)) pgs_nil))))
    (pss_cons (ps_try_keep (i := 3) (x := "TurnError") (c := .ref (cs 15)) (X := (cxOf C8.CX0 X.prog X.w X.K X.mg X.base nLTz "_law_told" (defScope sLTz) g cdg X.A X.stack s H C8.E0).nox)
        (tb := fun W D σ H => σ[0]? = some (some (.ref f)) ∧ H c' = some (LamX.CodeO c' q) ∧ tl (fun cls d H' => ∀ σ' : St, σ'.length = 4 → W cls d σ' H') H (fun v H' => D.nx (σ.set 2 (some v)) H'))
        (ts := fun a cls d => tAsg (tVar 3) (gName 1)) rfl rfl scLTz.nd rfl rfl ⟨rfl, by decide, .inl R.e15⟩ rfl LamX.takes0 (fun W pn xe tk _ => ?_) (fun a oe cls d pn _ _ => pss_one (ps_set (i := 1) scLTz.nd rfl (Or.inl rfl) (pv 3))))
    (pss_one (ps_ret (pe_ifExp (pt_cmpR op_isN (pv 1) pe_non (nomark _)) (pe_tup (pa_cons pe_str (pa_cons (pv 2) pa_nil))) (pe_call GWo (hr.mono (by decide)) rfl WO.g WO.F.kp WO.b .nil pass0 (pa_cons (pv 1) pa_nil)))))), ?_⟩
  · refine ⟨fun pins s' σ H' D I h' => ?_⟩
    obtain ⟨h1, h2, h3⟩ := h'
    exact (pss_one (ps_set (i := 2) scLTz.nd rfl (Or.inl rfl) (act _ pn xe (fun cls d H' => ∀ σ' : St, σ'.length = 4 → W cls d σ' H') _ _ (takes_lenZ tk) fun cls d σ' H' e hl => e σ' hl))).run pins s' σ H' D I ⟨h1, h2, h3⟩
  · refine ⟨by show 2 ≤ sizeLine; decide, fun p hp => ⟨p, _, rfl, SqT.of upd_same, rfl, _, _, rfl, _, _, rfl, rfl, rfl, ?_, h f p hp⟩⟩
    rw [upd_ne (fun z => by rw [z, hp] at hc; cases hc)]
    exact hc
end
end Toy

-- part: LKG
namespace Toy
open PySem L2
/-! behind a lambda: all but the tables stays (groups, draws, turns, odd things) -/
open LamX (Tabs TabS ExtN CodeO)
theorem TupsAt.extG {H H' : Hp} (e : ExtN H H') {bs : List Addr} {cs : List (List Int)} (t : TupsAt H bs cs) : TupsAt H' bs cs := Paired.mapP t fun b c h => e _ _ h (by intro _ z; cases z)
section
variable {K : PySem.W.Frag}
theorem sqt_extG {H H' : Hp} {a : Addr} {xs : List V} (e : ExtN H H') (h : SqT K H a xs) : SqT K H' a xs := by
  rcases h with (q | ⟨o, q⟩) | q
  · exact .inl (.inl (e _ _ q (by intro _ z; cases z)))
  · exact .inl (.inr ⟨o, e _ _ q (by intro _ z; cases z)⟩)
  · exact .inr q
theorem sql_extG {H H' : Hp} {a : Addr} {xs : List V} (e : ExtN H H') (h : SqL K H a xs) : SqL K H' a xs := by
  rcases h with (q | ⟨o, q⟩) | q
  · exact .inl (.inl (e _ _ q (by intro _ z; cases z)))
  · exact .inl (.inr ⟨o, e _ _ q (by intro _ z; cases z)⟩)
  · exact .inr q
theorem DrA.extG {sc d : Addr} {ns : List Int} {H H' : Hp} (e : ExtN H H') (h : DrA K sc ns H d) : DrA K sc ns H' d := by
  obtain ⟨n, D⟩ := h
  exact ⟨n, e _ _ D.dr (by intro _ z; cases z), sql_extG e D.sq, D.len, D.pos⟩
theorem TyB.extG {H H' : Hp} (e : ExtN H H') {x : V} {T : String} (t : TyB K H x T) : TyB K H' x T := by
  cases t with
  | non => exact .non
  | bl b => exact .bl b
  | int i => exact .int i
  | str x => exact .str x
  | byt b => exact .byt b
  | lst h => exact .lst (sql_extG e h)
  | tup h => exact .tup (sqt_extG e h)
  | dK h => exact .dK (e _ _ h (by intro _ z; cases z))
theorem Thing.extG {H H' : Hp} (e : ExtN H H') {x : V} {c : Option (List V)} (h : Thing K H x c) : Thing K H' x c := by
  cases c with
  | some xs =>
    obtain ⟨a, h1, h2, h3, h4⟩ := h
    exact ⟨a, h1, sqt_extG e h2, h3, fun y hy => (h4 y hy).imp fun T t => TyB.extG e t⟩
  | none =>
    obtain ⟨T, t, n⟩ := h
    exact ⟨T, TyB.extG e t, n⟩
theorem Tabs.exG {T : List (Addr × Str)} {sc d : Addr} {ns : List Int} {H H' : Hp} (D : DrA K sc ns H d) (E : Ex d H H') (t : Tabs T H) : Tabs T H' := fun p hp => by
  obtain ⟨n, D⟩ := D
  have nd : ∀ {b o}, H b = some o → (∀ xs, o ≠ .lst xs) → H' b = some o := fun {b o} h n => E b o h (fun z => by
    rw [z, D.dr] at h
    exact n _ (Option.some.inj h).symm)
  obtain ⟨ps, h1, h2, h3⟩ := t p hp
  refine ⟨ps, nd h1 (by intro _ z; cases z), h2, fun pos cv hc => ?_⟩
  obtain ⟨c, e1, e2⟩ := h3 pos cv hc
  exact ⟨c, e1, nd e2 (by intro _ z; unfold CodeO at z; cases z)⟩
end
theorem FlAt.extG {H H' : Hp} {n : Nat} {g b m : Addr} {v : Lv} (e : ExtN H H') (h : FlAt H n g b m v) : FlAt H' n g b m v := by
  have tp : ∀ {a : Addr} {ys : List V}, H a = some (.tup ys) → H' a = some (.tup ys) := fun {a ys} h => e a _ h (by intro _ z; cases z)
  obtain ⟨⟨k1, h1, p1⟩, ⟨k2, h2, l2, p2⟩, ⟨zs, h3, t3⟩⟩ := h
  exact ⟨⟨k1, e _ _ h1 (by intro _ z; cases z), Paired.mapP p1 fun kv z ⟨q1, a, q2, q3⟩ => ⟨q1, a, q2, tp q3⟩⟩, ⟨k2, e _ _ h2 (by intro _ z; cases z), l2, fun k u hk => by obtain ⟨a, c, q1, q2, q3⟩ := p2 k u hk; exact ⟨a, c, q1, q2, tp q3⟩⟩, ⟨zs, e _ _ h3 (by intro _ z; cases z), TupsAt.extG e t3⟩⟩
theorem ChAt.extG {C : Addr} {H H' : Hp} {n : Nat} {c la ga wa ma : Addr} {gs bs ms : List Addr} {lv : List Lv} (e : ExtN H H') (h : ChAt C H n c la ga wa ma gs bs ms lv) : ChAt C H' n c la ga wa ma gs bs ms lv := by
  obtain ⟨⟨dx, h0⟩, h1, h2, h3, h4, l1, l2, l3, f⟩ := h
  exact ⟨⟨dx, e _ _ h0 (by intro _ z; cases z)⟩, e _ _ h1 (by intro _ z; cases z), e _ _ h2 (by intro _ z; cases z), e _ _ h3 (by intro _ z; cases z), e _ _ h4 (by intro _ z; cases z), l1, l2, l3, fun i g b m v a1 a2 a3 a4 => (f i g b m v a1 a2 a3 a4).extG e⟩
theorem Grp.extG {C CC : Addr} {H H' : Hp} {g : Addr} {n : Nat} {fs : List Int} {Ls : List (List Int)} {lv : List Lv} {ow : List Addr} (e : ExtN H H') (h : Grp C CC H g n fs Ls lv ow) : Grp C CC H' g n fs Ls lv ow := by
  obtain ⟨⟨dx, mk, c, pl, la, ga, wa, ma, ds, gs, ws, ms, A, eo⟩, h2, h3, h4, h5, h6, h7, h8, h9⟩ := h
  exact ⟨⟨dx, mk, c, pl, la, ga, wa, ma, ds, gs, ws, ms, ⟨e _ _ A.ob (by intro _ z; cases z), e _ _ A.mkr (by intro _ z; cases z), TupsAt.extG e A.tm, A.ch.extG e, e _ _ A.pl (by intro _ z; cases z)⟩, eo⟩, h2, h3, h4, h5, h6, h7, h8, h9⟩
end Toy

-- part: KWC
/-! f(k = v, ..): a def called with keywords alone -/
namespace Toy
open PySem PySem.Spec PyProof.Rows L2
def tCallK0 (nk : Nat) (sp : Sp) (gV : List V → List V → List V) (E : XK) (tk : TA) : TE := fun σ H Q => tk σ H fun zs H2 => zs.length = nk ∧ sp (gV [] zs) H2 Q E
section
variable {X : Cx} {CX : CXT} {k : Nat} {f : Addr} {fd : FuncData} {ps ks : List Str} {sp : Sp} {E : XK} {x : Str} {p pos : Pos} {kws : List Keyword} {tk : TA} {g : List Value → List Value → List Value} {gV : List V → List V → List V}
theorem pe_callK0 (F : FnOk X.prog X.w X.K X.mg X.base CX k f fd ps sp) (hr : Room k X.A) (hg : Gl X x) (hm : X.mg x = some (.ref f)) (hk : PySem.W.keepIn X.K (.ref f) = true) (hb : KBn X.K fd ps 0 ks g gV) (hx : Passes CX X E)
    (hkw : PK X kws tk) (hall : (backToKw pos (keywordEach kws X.env)).all (·.1.isSome) = true := by rfl) (hks : (backToKw pos (keywordEach kws X.env)).filterMap (·.1) = ks := by rfl)
    (hdb : (x == ("__debug__" : Str)) = false := by decide)
    (hpl : ((backTo pos (starEach [] X.env)).any (·.1) || (backToKw pos (keywordEach kws X.env)).any (·.1.isNone)) = false := by rfl) :
    PE X (.Call (.Name x p) [] kws pos) (tCallK0 ks.length sp gV E tk) := by
  refine ⟨fun pins s σ H Q I h => ?_⟩
  refine wpAny_Call_Name_kw (ld_glob I hg hm ?_ hdb)
  refine PySem.W.callWith_KW0 (first := []) (h₀ := X.base) I.ok.mod.kin hk hall ?_ hpl
  refine thn (hkw.run pos pins s σ H _ I h) fun ws s2 ⟨zs, H2, I2, rz, l2, q2⟩ => ⟨I2.kIn, ?_⟩
  rw [hks]
  exact run_fnN (us := []) (vs := []) F hr hb hx I2 .nil rz rfl l2 q2
end
end Toy

-- part: MTK
/-! o.m(k = v, ..): a method called with keywords alone -/
namespace Toy
open PySem PySem.Spec PyProof.Rows L2
theorem kbn_of {K : PySem.W.Frag} {x qual : Str} {st : Stmt} {f : Addr} {fd : FuncData} {ps ks : List Str} {n : Nat} {g : List Value → List Value → List Value} {gV : List V → List V → List V} (F : Fun K x qual st f fd)
    (h : ∀ (kV doc pm : Value) (an : Option Addr) (cdv ct : Value) (us ws : List Value), us.length = n → ws.length = ks.length → bindArgs (PySem.W.fnOf x qual (defArgs st) (defBody st) (defScope st) .none kV doc pm an cdv ct) ⟨us, ks.zip ws⟩ = pure (ps.zip (g us ws)))
    (rel : ∀ {vs : List V} {us : List Value} {zs : List V} {ws : List Value}, Vals vs us → Vals zs ws → Vals (gV vs zs) (g us ws)) : KBn K fd ps n ks g gV := by
  obtain ⟨oc, od, kV, doc, pm, an, cdv, ct, osl, rfl, lk, hcd⟩ := F.ex
  exact ⟨fun s us ws X l1 l2 => .of_eq (h kV doc pm an cdv ct us ws l1 l2), rel⟩
def tMethK (C : Addr) (m : Str) (nk : Nat) (sp : Sp) (gV : List V → List V → List V) (E : XK) (ta : TE) (tk : TA) : TE := fun σ H Q => ta σ H fun x H1 => ∃ a dx fs, x = .ref a ∧ H1 a = some (.ins C dx fs) ∧ fs.lookup m = none ∧ tk σ H1 fun zs H2 => zs.length = nk ∧ sp (gV [x] zs) H2 Q E
section
variable {X : Cx} {CX : CXT} {k : Nat} {f C : Addr} {fd : FuncData} {ps ks : List Str} {sp : Sp} {E : XK} {m : Str} {apos pos : Pos} {o : Expr} {kws : List Keyword} {ta : TE} {tk : TA} {g : List Value → List Value → List Value} {gV : List V → List V → List V}
theorem pe_methK0 {pl : Sem Bool} (he : PE X o ta) (c : Cls X.K C) (hm : Meth X.K C m f) (F : FnOk X.prog X.w X.K X.mg X.base CX k f fd ps sp) (hr : Room k X.A) (hb : KBn X.K fd ps 1 ks g gV) (hx : Passes CX X E) (hkw : PK X kws tk)
    (hall : (backToKw pos (keywordEach kws X.env)).all (·.1.isSome) = true := by rfl) (hks : (backToKw pos (keywordEach kws X.env)).filterMap (·.1) = ks := by rfl)
    (hpl : ((backTo pos (starEach [] X.env)).any (·.1) || (backToKw pos (keywordEach kws X.env)).any (·.1.isNone)) = false := by rfl)
    (ht : eval (.Call (.Attribute o m apos) [] kws pos) X.env = (do
      let ov ← eval o X.env
      standAt apos.atName
      let (f, first) ← holding [ov] (getMethod ov m pl)
      callWith pos f first (backTo pos (starEach [] X.env)) (backToKw pos (keywordEach kws X.env))) := by rfl) :
    PE X (.Call (.Attribute o m apos) [] kws pos) (tMethK C m ks.length sp gV E ta tk) := by
  refine ⟨fun pins s σ H Q I h => ?_⟩
  refine PySem.W.methodCall_KW (pl := pl) (thn (he.run pins s σ H _ I h) fun u s1 ⟨x, H1, I1, rx, a, dx, fs, ex, ea, l, q⟩ => ?_) ht
  subst ex
  obtain rfl : u = Value.ref a := rx
  refine getmeth_ok I1 ea c hm l ?_
  refine PySem.W.callWith_KW0 (first := [.ref a]) (h₀ := X.base) I.ok.mod.kin hm.kp hall ?_ hpl
  refine thn (hkw.run pos pins s1 σ H1 _ I1 q) fun ws s2 ⟨zs, H2, I2, rz, l2, q2⟩ => ⟨I2.kIn, ?_⟩
  rw [hks]
  exact run_fnN (us := [.ref a]) (vs := [.ref a]) F hr hb hx I2 (.cons rfl .nil) rz rfl l2 q2
end
end Toy

-- part: KW6
namespace Toy
open PySem L2
open LamX (Tabs TabS ExtN TabB pe_lamcall)
theorem any_LLz (S : List Int) : ∀ cs : List (List Int), ((cs.map dTup).any fun z => PyData.eqv z (dTup S)) = decide (S ∈ cs)
  | [] => by simp
  | c :: r => by
    rw [List.map_cons, List.any_cons, any_LLz S r, eqvT, Bool.eq_iff_iff]
    simp only [Bool.or_eq_true, decide_eq_true_eq, List.mem_cons]
    exact or_congr_left ⟨Eq.symm, Eq.symm⟩
theorem kin_gen {n : Nat} {Ls : List (List Int)} {W X : List Int} (tr : ∀ L ∈ Ls, Trn n L) (b : Bits n W) : KinR n Ls W X ↔ ∃ t, Gen n Ls t ∧ ledA n t W = X := by
  constructor
  · intro h
    induction h with
    | one => exact ⟨_, .one, ledA_up b⟩
    | go _ hL ih =>
      obtain ⟨t, g, e⟩ := ih
      exact ⟨_, .mul g hL, by rw [ledA_join (g.trn tr) b, e]⟩
  · rintro ⟨t, g, rfl⟩
    induction g with
    | one => rw [ledA_up b]; exact .one
    | mul g hL ih =>
      rw [ledA_join (g.trn tr) b]
      exact .go ih hL
/-- a turn and where it leads, as a pair -/
def dPr (M T : List Int) : PyData := .tuple [dTup M, dTup T]
theorem dp_pr {K : PySem.W.Frag} {H : Hp} {p c t : Addr} {M T : List Int} (hp : H p = some (.tup [.ref c, .ref t])) (hc : H c = some (.tup (M.map V.int))) (ht : H t = some (.tup (T.map V.int))) : Dp K H (.ref p) (dPr M T) :=
  .tup (SqT.of hp) (.cons (dp_tupT (SqT.of hc)) (.cons (dp_tupT (SqT.of ht)) .nil))
theorem shaped_pr (M T : List Int) : SeqAt.shaped (dPr M T) = true := by
  have h := dep_intsD M
  have h2 := dep_intsD T
  unfold SeqAt.shaped dPr dTup
  rw [Bool.and_eq_true]
  refine ⟨by simp [PyData.canLay0, PyData.canLayAll0, can_ints], decide_eq_true ?_⟩
  simp only [PyData.depth, PyData.depthAll] at h h2 ⊢
  omega
theorem shaped_ans : SeqAt.shaped (.tuple [.str "answer", .none]) = true := by
  decide +kernel
theorem eqv_pr (M T : List Int) : PyData.eqv (dPr M T) (dPr M T) = true := by
  unfold dPr
  simp only [PyData.eqv, PyData.eqvAll, eqvT, decide_true, Bool.and_self]
section
variable {P : Program} {w : World} {K : PySem.W.Frag} {mg : Str → Option Value} {base : Heap} {cs : Nat → Addr}
def gSw {α : Type} (us ws : List α) : List α := match ws with
  | [a, b] => [b, a]
  | _ => []
theorem gSw_rel {vs zs : List V} {us ws : List Value} (_h1 : Vals vs us) (h2 : Vals zs ws) : Vals (gSw vs zs) (gSw us ws) := by
  cases h2 with
  | nil => exact .nil
  | cons a t =>
    cases t with
    | nil => exact .nil
    | cons b t =>
      cases t with
      | nil => exact .cons b (.cons a .nil)
      | cons _ _ => exact .nil
abbrev sLaw : Stmt := s_law
abbrev nLaw : List Str := ["script", "draw", "many", "makers", "herd", "products", "turn", "bits", "found", "odd", "k"]
theorem scLaw : FnScope nLaw ["script"] (defScope sLaw) := ⟨rfl, rfl, rfl, by decide +kernel, rfl, by decide +kernel, by decide +kernel⟩
def tLaw_1 (K : PySem.W.Frag) : TE := tCall (spLTu K) [] E0 (tCons (tVar 1) (tCons (tVar 2) tNil))
def qLam : Str := "law.<locals>.<lambda>"
theorem LamX_lam {sc scope : Scope} (h : LamX.lamSB sc scope = true) : LamX.LamS sc scope := LamX.lamS_by h
def tLamZ (K : PySem.W.Frag) (C CC CA : Addr) : XK → TE := fun E => tCall (spLeR K C CC CA) [] E (tCons (tVar 4) (tCons (tVar 9) tNil))
/-- what stands while the law goes on -/
structure LawS (K : PySem.W.Frag) (C CC PT sc : Addr) (ns : List Int) (d ml g pl : Addr) (n : Nat) (fs : List Int) (Ls : List (List Int)) (lv : List Lv) (ow ms ps : List Addr) (Ps : List (List Int)) (H : Hp) : Prop where
  D : DrA K sc ns H d
  G : Grp C CC H g n fs Ls lv ow
  nd : d ∉ ow
  m : H ml = some (.lst (ms.map V.ref))
  md : ml ≠ d
  tm : TupsAt H ms Ls
  p : H pl = some (.lst (ps.map V.ref))
  pd : pl ≠ d
  tp : TupsAt H ps Ps
  T : Tabs [(PT, qLam)] H
section
variable {C CC PT sc d ml g pl : Addr} {ns : List Int} {n : Nat} {fs : List Int} {Ls Ps : List (List Int)} {lv : List Lv} {ow ms ps : List Addr} {H H' : Hp}
theorem LawS.same (e : Same H H') (h : LawS K C CC PT sc ns d ml g pl n fs Ls lv ow ms ps Ps H) : LawS K C CC PT sc ns d ml g pl n fs Ls lv ow ms ps Ps H' :=
  ⟨DrA.same e h.D, h.G.same e, h.nd, e _ _ h.m, h.md, h.tm.same e, e _ _ h.p, h.pd, h.tp.same e, h.T.ext e⟩
theorem LawS.ex (D' : DrA K sc ns H' d) (e : Ex d H H') (h : LawS K C CC PT sc ns d ml g pl n fs Ls lv ow ms ps Ps H) : LawS K C CC PT sc ns d ml g pl n fs Ls lv ow ms ps Ps H' :=
  ⟨D', h.G.but (zs := [d]) e.but (fun z hz => by rw [List.mem_singleton.mp hz]; exact h.nd) (fun z hz ys q => by
    obtain ⟨_, D⟩ := h.D
    rw [List.mem_singleton.mp hz, D.dr] at q
    cases q), h.nd, e _ _ h.m h.md, h.md, tups_ex h.D e h.tm, e _ _ h.p h.pd, h.pd, tups_ex h.D e h.tp, Tabs.exG h.D e h.T⟩
theorem LawS.ext (e : ExtN H H') (T : Tabs [(PT, qLam)] H') (h : LawS K C CC PT sc ns d ml g pl n fs Ls lv ow ms ps Ps H) : LawS K C CC PT sc ns d ml g pl n fs Ls lv ow ms ps Ps H' :=
  ⟨h.D.extG e, h.G.extG e, h.nd, e _ _ h.m (by intro _ z; cases z), h.md, TupsAt.extG e h.tm, e _ _ h.p (by intro _ z; cases z), h.pd, TupsAt.extG e h.tp, T⟩
end
def spLaw (K : PySem.W.Frag) (T : List (Addr × Str)) : Sp := fun vs H Q _ => ∃ (sc : Addr) (ns : List Int), vs = [.ref sc] ∧ SqL K H sc (ns.map V.int) ∧ ns.length ≤ 63 ∧ Tabs T H ∧ ∀ H', Q (.bl true) H'
theorem ok_law {C CC CA c PT f f__law_told f__law_word f__law_next f__law_turn f__law_based f__law_products f__law_answer f_least f__law_kin f__law_led_answer f__law_none f_Group_size f_Group_has : Addr} {fd fd__law_told fd__law_word fd__law_next fd__law_turn fd__law_based fd__law_products fd__law_answer fd_least fd__law_kin fd__law_led_answer fd__law_none fd_Group_size fd_Group_has : FuncData} (F : FunT K "law" "law" sLaw c f fd) (B : Bl mg) (TB : TabB base mg c PT) (cl : Cls K C)
    (D__law_next : Df K mg "_law_next" sNext ["draw", "size"] f__law_next fd__law_next) (G__law_next : FnOk P w K mg base CX0 2 f__law_next fd__law_next ["draw", "size"] (spNext K)) (D__law_turn : Df K mg "_law_turn" sLTu ["draw", "many"] f__law_turn fd__law_turn) (G__law_turn : FnOk P w K mg base CX0 3 f__law_turn fd__law_turn ["draw", "many"] (spLTu K)) (D__law_based : Df K mg "_law_based" sBs ["draw", "many", "makers"] f__law_based fd__law_based) (G__law_based : FnOk P w K mg base CX0 20 f__law_based fd__law_based ["draw", "many", "makers"] (spBs K C CC)) (D__law_products : Df K mg "_law_products" sLp ["many", "makers"] f__law_products fd__law_products) (G__law_products : FnOk P w K mg base CX0 3 f__law_products fd__law_products ["many", "makers"] spLp) (D__law_answer : Df K mg "_law_answer" sLan ["draw", "many"] f__law_answer fd__law_answer) (G__law_answer : FnOk P w K mg base CX0 3 f__law_answer fd__law_answer ["draw", "many"] (spLan K)) (D_least : Df K mg "least" sLe ["group", "answer"] f_least fd_least) (G_least : FnOk P w K mg base CX0 4 f_least fd_least ["group", "answer"] (spLe K C CC)) (D__law_kin : Df K mg "_law_kin" sKi ["makers", "bits"] f__law_kin fd__law_kin) (G__law_kin : FnOk P w K mg base CX0 3 f__law_kin fd__law_kin ["makers", "bits"] (spKi K)) (D__law_led_answer : Df K mg "_law_led_answer" sLwZ ["turn", "bits"] f__law_led_answer fd__law_led_answer) (G__law_led_answer : FnOk P w K mg base CX0 2 f__law_led_answer fd__law_led_answer ["turn", "bits"] (spLwZ K)) (D__law_none : Df K mg "_law_none" sLno ["draw", "bits"] f__law_none fd__law_none) (G__law_none : FnOk P w K mg base CX0 3 f__law_none fd__law_none ["draw", "bits"] (spLno K)) (M_Group_size : MB P w K mg base C "size" 2 ["self"] (spGs C CC) f_Group_size fd_Group_size) (M_Group_has : MB P w K mg base C "has" 4 ["self", "thing"] (spGh K C CC) f_Group_has fd_Group_has)
    (kbL : KBn K fd_least ["group", "answer"] 0 ["answer", "group"] (fun us ws => gSw us ws) (fun vs zs => gSw vs zs)) (GLeR : FnOk P w K mg base (L2.CX P w) 4 f_least fd_least ["group", "answer"] (spLeR K C CC CA))
    (D__law_told : Df K mg "_law_told" sLTz ["work"] f__law_told fd__law_told) (D__law_word : Df K mg "_law_word" sLWz ["e"] f__law_word fd__law_word) (G__law_word : FnOk P w K mg base CX0 1 f__law_word fd__law_word ["e"] (spLWz K cs)) (ER : Errs mg cs) (EK : ErrK K cs CA 11) (kT : PySem.W.kitOne K (.ref CA) (.ref (cs 15)) = some true) : FnG P w K mg base 21 f fd ["script"] (spLaw K [(PT, qLam)]) := by
  obtain ⟨ocR, odR, kVR, docR, pmR, anR, cdvR, ctR, oslR, rfl, lkR, hcR⟩ := D__law_told.F.ex
  refine FnG.ofT F scLaw (fun vs H Q E h => ?_) (fun A outer s H vs Q E hgu hr h => ?_)
  · obtain ⟨sc, ns, rfl, _⟩ := h
    rfl
  · obtain ⟨sc, ns, rfl, hS, hn, hT, q⟩ := h
    have hu65 : (A.deeper (PyProof.Rows.envOfC "law" (defScope sLaw) s.heap.objs.size f (.ref c))).units + 65 < cLine := Nat.lt_of_le_of_lt (Nat.add_le_add_left (by decide : 65 ≤ 100) _) (u100 hr)
    refine ⟨_, pss_cons (ps_set (i := 1) scLaw.nd rfl (Or.inr rfl) (pe_lst (pa_cons (pv 0) (pa_cons pe_int pa_nil))))
      (pss_cons (ps_set (i := 2) scLaw.nd rfl (Or.inr rfl) (pe_op op_add pe_int (pe_call G__law_next (hr.mono (by decide)) rfl D__law_next.g D__law_next.F.kp D__law_next.b .nil pass0 (pa_cons (pv 1) (pa_cons pe_int pa_nil)))))
      (pss_cons (ps_setLc (i := 3) (own := [("k", 10)]) (g := gName 10) (tt := tYes) (te := tLaw_1 K) rfl scLaw.nd rfl rfl (sw_true rfl rfl rfl (by decide +kernel)) (pi_range1 rfl B.range (pa_cons (pe_call G__law_next (hr.mono (by decide)) rfl D__law_next.g D__law_next.F.kp D__law_next.b .nil pass0 (pa_cons (pv 1) (pa_cons pe_int pa_nil))) pa_nil)) (blkOk_by (own := [("k", 10)]) (N := nLaw) (sc := (defScope sLaw)) (by decide +kernel)) (fun _ _ _ _ _ => pg_name (i := 10) scLaw.nd rfl (Or.inl rfl)) (fun _ _ _ _ _ => pts_nil) (fun _ _ _ _ _ => pe_call G__law_turn (hr.mono (by decide)) rfl D__law_turn.g D__law_turn.F.kp D__law_turn.b .nil pass0 (pa_cons (pv 1) (pa_cons (pv 2) pa_nil))))
      (pss_cons (ps_set (i := 4) scLaw.nd rfl (Or.inr rfl) (pe_call G__law_based hr rfl D__law_based.g D__law_based.F.kp D__law_based.b .nil pass0 (pa_cons (pv 1) (pa_cons (pv 2) (pa_cons (pv 3) pa_nil)))))
      (pss_cons (ps_set (i := 5) scLaw.nd rfl (Or.inl rfl) (pe_ifExp (pt_cmpR op_le (pe_meth0 (pv 4) cl M_Group_size.m M_Group_size.g (hr.mono (by decide)) M_Group_size.b .nil pass0) pe_int (nomark _)) (pe_call G__law_products (hr.mono (by decide)) rfl D__law_products.g D__law_products.F.kp D__law_products.b .nil pass0 (pa_cons (pv 2) (pa_cons (pv 3) pa_nil))) (pe_lst pa_nil)))
      (pss_cons (ps_for PassesOwn.never rfl (pi_range1 rfl B.range (pa_cons pe_int pa_nil)) (pg_name (i := 6) scLaw.nd rfl (Or.inl rfl)) (pss_cons (ps_set (i := 7) scLaw.nd rfl (Or.inl rfl) (pe_call G__law_answer (hr.mono (by decide)) rfl D__law_answer.g D__law_answer.F.kp D__law_answer.b .nil pass0 (pa_cons (pv 1) (pa_cons (pv 2) pa_nil))))
      (pss_cons (ps_set (i := 8) scLaw.nd rfl (Or.inl rfl) (pe_call G_least (hr.mono (by decide)) rfl D_least.g D_least.F.kp D_least.b .nil pass0 (pa_cons (pv 4) (pa_cons (pv 7) pa_nil))))
      (pss_cons (ps_if (PW.pt (pw_or (pt_not (pt_val (pe_callB call_isi (by rfl) B.isinstance (by decide +kernel) (pa_cons (pv 8) (pa_cons (pe_bltn (v := .ty "tuple") (by rfl) B.tuple (by decide +kernel) rfl) pa_nil))))) (pw_or (pt_cmpR op_ne (pe_callB call_len_seq (by rfl) B.len PySem.boot_len (pa_cons (pv 8) pa_nil)) pe_int (nomark _)) (pw_or1 (pt_cmpR (op_neD hr.units) (pe_ix ix_tup (pv 8) pe_int (fun _ _ => rfl)) (pe_ix ix_list (pe_call G__law_kin (hr.mono (by decide)) rfl D__law_kin.g D__law_kin.F.kp D__law_kin.b .nil pass0 (pa_cons (pv 3) (pa_cons (pv 7) pa_nil))) pe_int (fun _ _ => rfl)) (nomark _)))))) (pss_one (ps_ret pe_bl)) pss_nil)
      (pss_cons (ps_if (PW.pt (pw_or (pt_cmpR (op_neD hr.units) (pe_call G__law_led_answer (hr.mono (by decide)) rfl D__law_led_answer.g D__law_led_answer.F.kp D__law_led_answer.b .nil pass0 (pa_cons (pe_ix ix_tup (pv 8) pe_int (fun _ _ => rfl)) (pa_cons (pv 7) pa_nil))) (pe_ix ix_tup (pv 8) pe_int (fun _ _ => rfl)) (nomark _)) (pw_or1 (pt_not (pt_val (pe_meth (pv 4) cl M_Group_has.m M_Group_has.g (hr.mono (by decide)) M_Group_has.b .nil pass0 (pa_cons (pe_ix ix_tup (pv 8) pe_int (fun _ _ => rfl)) pa_nil))))))) (pss_one (ps_ret pe_bl)) pss_nil)
      (pss_cons (ps_if (PW.pt (pw_and (pt_cmpR (op_neE hr.units) (pv 5) (pe_lst pa_nil) (nomark _)) (pw_and1 (pt_cmpR (op_notInD hu65) (pe_ix ix_tup (pv 8) pe_int (fun _ _ => rfl)) (pv 5) rfl)))) (pss_one (ps_ret pe_bl)) pss_nil)
      (pss_cons (ps_set (i := 9) scLaw.nd rfl (Or.inr rfl) (pe_call G__law_none (hr.mono (by decide)) rfl D__law_none.g D__law_none.F.kp D__law_none.b .nil pass0 (pa_cons (pv 1) (pa_cons (pv 7) pa_nil))))
      (pss_one (ps_if (PW.pt (pw_or (pt_cmpR (op_neD hr.units) (pe_lamcall (T := [(PT, qLam)]) (TT := TTz K cs) (k := 4) (t := tLamZ K C CC CA) (by rfl) D__law_told.g D__law_told.F.kp lkR hcR D__law_told.b scLTz rfl (Or.inl rfl) (toldz_gives rfl (hr.mono (by decide)) ER D__law_word G__law_word) TB rfl List.mem_cons_self (fun p hp _ => by rw [List.mem_singleton.mp hp]; rfl) (hr.mono (by decide)) (LamX_lam (by show LamX.lamSB (defScope sLaw) _ = true; decide +kernel)) rfl (fun _ _ _ _ _ => rfl) (fun A outer s H E f c' hr2 => pe_call GLeR hr2 rfl D_least.g D_least.F.kp D_least.b .nil lam_pass (pa_cons (pv 4) (pa_cons (pv 9) pa_nil)))) (pe_tup (pa_cons pe_str (pa_cons pe_non pa_nil))) (nomark _)) (pw_or1 (pt_cmpR (op_neD hr.units) (pe_callK0 G_least (hr.mono (by decide)) rfl D_least.g D_least.F.kp kbL pass0 (pk_cons (pv 7) (pk_cons (pv 4) pk_nil))) (pv 8) (nomark _))))) (pss_one (ps_ret pe_bl)) pss_nil)))))))))
      (pss_one (ps_ret pe_bl))))))), ?_⟩
    show tSeq _ _ _ [some (.ref sc), none, none, none, none, none, none, none, none, none, none] H
    have eZ : sizeLine = 16777216 := rfl
    -- draw
    refine seq_gen (fun σ' H' => ∃ d : Addr, σ' = [some (.ref sc), some (.ref d), none, none, none, none, none, none, none, none, none] ∧ DrA K sc ns H' d ∧ Tabs [(PT, qLam)] H') (fun nx hnx => ?_) ?_
    · exact ⟨_, rfl, by show 2 ≤ sizeLine; decide, fun d hd => hnx _ _ ⟨d, rfl, ⟨0, upd_same, Same.seq (Same.new hd) hS, hn, Int.le_refl _⟩, hT.ext (Same.new hd)⟩⟩
    rintro σ1 H1 ⟨d, rfl, D1, T1⟩
    -- many
    refine seq_gen (fun σ' H' => ∃ n : Nat, σ' = [some (.ref sc), some (.ref d), some (.int (n : Int)), none, none, none, none, none, none, none, none] ∧ 1 ≤ n ∧ n ≤ 6 ∧ DrA K sc ns H' d ∧ Tabs [(PT, qLam)] H') (fun nx hnx => ?_) ?_
    · refine ⟨_, rfl, d, 6, sc, ns, rfl, by decide, D1, fun r H2 r0 r1 E2 D2 => ⟨_, _, rfl, rfl, hnx _ _ ⟨(1 + r).toNat, ?_, by omega, by omega, D2, Tabs.exG D1 E2 T1⟩⟩⟩
      rw [show ((1 + r).toNat : Int) = 1 + r by omega]
      rfl
    rintro σ2 H2 ⟨n, rfl, n1, n6, D2, T2⟩
    -- makers
    refine seq_gen (fun σ' H' => ∃ (ml : Addr) (ms : List Addr) (Ls : List (List Int)), σ' = [some (.ref sc), some (.ref d), some (.int (n : Int)), some (.ref ml), none, none, none, none, none, none, none] ∧ DrA K sc ns H' d ∧ ml ≠ d ∧ H' ml = some (.lst (ms.map V.ref)) ∧ TupsAt H' ms Ls ∧ (∀ L ∈ Ls, Trn n L) ∧ Ls.length ≤ 60 ∧ Tabs [(PT, qLam)] H') (fun nx hnx => ?_) ?_
    · refine ⟨_, rfl, d, 3, sc, ns, rfl, by decide, D2, fun r H3 r0 r1 E3 D3 => ⟨r, rfl, by omega, by omega, fun D hD => ?_⟩⟩
      refine lc_draw (K := K) walk_range (R := fun (_ : Nat) y H => ∃ (p : Addr) (L : List Int), y = V.ref p ∧ H p = some (.tup (L.map V.int)) ∧ Trn n L) (xs := List.range r.toNat) (kp := fun _ => true) List.length_range (by rw [List.length_range]; omega) D3 hD (fun _ _ _ => trivial) ?_ fun H4 ys E4 D4 hy pr => ?_
      · rintro i a x Hz H5 T' F' ha E5 D5 nDd ⟨acc, hacc⟩ ⟨rfl, rfl⟩ hT' _
        refine ⟨rfl, yesT ?_⟩
        show tLaw_1 K [some (.ref sc), some (.ref d), some (.int (n : Int)), none, none, none, none, none, none, none, some (.int (0 + (i : Int)))] _ _
        refine ⟨_, rfl, _, rfl, d, (n : Int), sc, ns, rfl, by omega, by omega, D5, fun p L H6 tL E6 D6 hp _ => hT' _ _ rfl E6 D6 fun H7 b7 => ⟨p, L, rfl, b7 _ _ hp fun z => ?_, tL⟩⟩
        rcases List.mem_cons.mp z with z | z
        · have := E6 _ _ hacc nDd
          rw [← z, hp] at this
          cases this
        · obtain ⟨_, D6'⟩ := D6
          rw [List.mem_singleton.mp z, D6'.dr] at hp
          cases hp
      · rw [List.filter_eq_self.mpr fun _ _ => rfl] at pr
        obtain ⟨ps, Ls, rfl, tp, tr, lp⟩ := pair_tups (P := Trn n) pr
        refine hnx _ _ ⟨D, ps, Ls, rfl, D4, D3.nd hD, hy, tp, tr, ?_, Tabs.exG D3 E4 (Tabs.exG D2 E3 T2)⟩
        rw [lp, List.length_range]
        omega
    rintro σ3 H3 ⟨ml, ms, Ls, rfl, D3, nmd, hml, tm, tr, l60, T3⟩
    -- herd
    refine seq_gen (fun σ' H' => ∃ (g : Addr) (fs : List Int) (lv : List Lv) (ow : List Addr), σ' = [some (.ref sc), some (.ref d), some (.int (n : Int)), some (.ref ml), some (.ref g), none, none, none, none, none, none] ∧ DrA K sc ns H' d ∧ H' ml = some (.lst (ms.map V.ref)) ∧ TupsAt H' ms Ls ∧ Tabs [(PT, qLam)] H' ∧ d ∉ ow ∧ Grp C CC H' g n fs Ls lv ow) (fun nx hnx => ?_) ?_
    · exact ⟨_, rfl, _, rfl, _, rfl, d, sc, ml, n, ns, ms, Ls, rfl, n1, by omega, D3, nmd, hml, tm, tr, l60, fun g fs lv ow H4 E4 D4 nd no G4 => hnx _ _ ⟨g, fs, lv, ow, rfl, D4, E4 _ _ hml nmd, tups_ex D3 E4 tm, Tabs.exG D3 E4 T3, nd, G4⟩⟩
    rintro σ4 H4 ⟨g, fs, lv, ow, rfl, D4, hml4, tm4, T4, nd4, G4⟩
    -- products
    refine seq_gen (fun σ' H' => ∃ (pl : Addr) (ps : List Addr) (Ps : List (List Int)), σ' = [some (.ref sc), some (.ref d), some (.int (n : Int)), some (.ref ml), some (.ref g), some (.ref pl), none, none, none, none, none] ∧ LawS K C CC PT sc ns d ml g pl n fs Ls lv ow ms ps Ps H' ∧ (Ps = [] ∨ ∀ t, Gen n Ls t → t ∈ Ps)) (fun nx hnx => ?_) ?_
    · obtain ⟨dx, mk, c0, pl0, la, ga, wa, ma, ds, gs, ws, ms0, A0, _⟩ := G4.at_
      refine ⟨_, rfl, g, dx, _, rfl, A0.ob, rfl, g, n, fs, Ls, lv, ow, rfl, G4, _, _, rfl, rfl, _, rfl, ?_⟩
      by_cases c4 : (sizeV lv : Int) ≤ 400
      · rw [decide_eq_true c4]
        refine iteT ⟨_, rfl, _, rfl, ml, n, ms, Ls, rfl, n1, by omega, hml4, tm4, tr, l60, fun Bs nB hB => ?_, fun l ws Ws H5 s5 nl hl tw srt gen l4 => hnx _ _ ⟨l, ws, Ws, rfl, ⟨DrA.same s5 D4, G4.same s5, nd4, s5 _ _ hml4, nmd, tm4.same s5, hl, D4.nd nl, tw, T4.ext s5⟩, .inr fun t h => (gen t).mpr h⟩⟩
        obtain ⟨A, nA, hA, lA⟩ := G4.all
        have := len_leC nB (m := A) fun t h => (hA t).mpr (hB t h)
        omega
      · rw [decide_eq_false c4]
        refine iteF ⟨Nat.zero_le _, fun l nl => ?_⟩
        have s5 := Same.new (o := .lst []) nl
        exact hnx _ _ ⟨l, [], [], rfl, ⟨DrA.same s5 D4, G4.same s5, nd4, s5 _ _ hml4, nmd, tm4.same s5, upd_same, D4.nd nl, .nil, T4.ext s5⟩, .inl rfl⟩
    rintro σ5 H5 ⟨pl, ps, Ps, rfl, S5, pok⟩
    refine seq_gen (fun σ' H' => True) (fun nx hnx => ?_) (fun σ' H' _ => q _)
    refine ⟨6, rfl, by decide, by decide, ?_⟩
    refine for_range (lo := 0) (n := 6) (g := gName 6) (fun i σ' H' => ∃ (l6 l7 l8 l9 : Option V), σ' = [some (.ref sc), some (.ref d), some (.int (n : Int)), some (.ref ml), some (.ref g), some (.ref pl), l6, l7, l8, l9, none] ∧ LawS K C CC PT sc ns d ml g pl n fs Ls lv ow ms ps Ps H') ⟨_, _, _, _, rfl, S5⟩ ?_ (fun σ' H' _ => hnx _ _ trivial)
    rintro i σ H6 hi ⟨l6, l7, l8, l9, rfl, S6⟩
    show tSeq _ _ _ [some (.ref sc), some (.ref d), some (.int (n : Int)), some (.ref ml), some (.ref g), some (.ref pl), some (.int (0 + (i : Int))), l7, l8, l9, none] H6
    generalize (0 + (i : Int)) = ti
    have ti0 := trivial
    -- bits
    refine seq_gen (fun σ' H' => ∃ (a : Addr) (W : List Int), σ' = [some (.ref sc), some (.ref d), some (.int (n : Int)), some (.ref ml), some (.ref g), some (.ref pl), some (.int ti), some (.ref a), l8, l9, none] ∧ LawS K C CC PT sc ns d ml g pl n fs Ls lv ow ms ps Ps H' ∧ H' a = some (.tup (W.map V.int)) ∧ a ≠ d ∧ Bits n W) (fun nx hnx => ?_) ?_
    · exact ⟨_, rfl, _, rfl, d, sc, n, ns, rfl, n1, by omega, S6.D, fun a W H7 E7 D7 na ha bW => hnx _ _ ⟨a, W, rfl, S6.ex D7 E7, ha, S6.D.nd na, bW⟩⟩
    rintro σ7 H7 ⟨a, W, rfl, S7, ha, nad, bW⟩
    -- found
    refine seq_gen (fun σ' H' => ∃ (p c t : Addr) (M : List Int), σ' = [some (.ref sc), some (.ref d), some (.int (n : Int)), some (.ref ml), some (.ref g), some (.ref pl), some (.int ti), some (.ref a), some (.ref p), l9, none] ∧ LawS K C CC PT sc ns d ml g pl n fs Ls lv ow ms ps Ps H' ∧ H' a = some (.tup (W.map V.int)) ∧ H' p = some (.tup [.ref c, .ref t]) ∧ H' c = some (.tup (M.map V.int)) ∧ H' t = some (.tup ((wayOf (waysL n (makL n Ls) W) M).map V.int)) ∧ LeastIn (waysL n (makL n Ls) W) M ∧ WaysOk n (makL n Ls) W (waysL n (makL n Ls) W)) (fun nx hnx => ?_) ?_
    · exact ⟨_, rfl, _, rfl, g, a, n, fs, Ls, lv, ow, W, rfl, S7.G, SqT.of ha, ha, bW, fun p c t M H8 s8 np hp hc ht le wo => hnx _ _ ⟨p, c, t, M, rfl, S7.same s8, s8 _ _ ha, hp, hc, ht, le, wo⟩⟩
    rintro σ8 H8 ⟨p, c1, t, M, rfl, S8, ha8, hp8, hc8, ht8, le, wo⟩
    obtain ⟨gT', eT⟩ := wo.gen _ (wayOf_mem le.1)
    have gT : Gen n Ls (wayOf (waysL n (makL n Ls) W) M) := (gen_makL tr _).mp gT'
    have okM : ∀ L ∈ makL n Ls, Trn n L := fun L hL => tr L (makL_mem.mp hL).1
    have kinM : ∀ X, KinR n (makL n Ls) W X ↔ KinR n Ls W X := fun X => by
      rw [kin_gen okM bW, kin_gen tr bW]
      exact ⟨fun ⟨t, g, e⟩ => ⟨t, (gen_makL tr t).mp g, e⟩, fun ⟨t, g, e⟩ => ⟨t, (gen_makL tr t).mpr g, e⟩⟩
    have bM : Bits n M := ((wo.mem M).mp le.1).bits bW
    generalize eW : waysL n (makL n Ls) W = ways at *
    generalize eTT : wayOf ways M = T at *
    have tT := gT.trn tr
    -- least?
    refine seq_gen (fun σ' H' => σ' = [some (.ref sc), some (.ref d), some (.int (n : Int)), some (.ref ml), some (.ref g), some (.ref pl), some (.int ti), some (.ref a), some (.ref p), l9, none] ∧ Same H8 H') (fun nx hnx => ?_) ?_
    · refine ⟨_, rfl, .ref p, .ty "tuple", .type "tuple", .type "tuple", true, rfl, .ty _, .base (.tup hp8), rfl, true, rfl, iteF ?_⟩
      refine ⟨_, rfl, p, _, rfl, .inr (SqT.of hp8), rfl, false, rfl, iteF ?_⟩
      refine ⟨_, rfl, p, _, 0, _, rfl, rfl, SqT.of hp8, rfl, ⟨_, rfl, _, rfl, ml, a, n, ms, Ls, W, rfl, n1, by omega, S8.m, S8.tm, tr, l60, ha8, bW, fun l bs Ws H9 s9 nl hl tb srt mem => ?_⟩⟩
      have hM : M ∈ Ws := (mem M).mpr ((kinM M).mp ((wo.mem M).mp le.1))
      cases Ws with
      | nil => cases hM
      | cons X Xs =>
        cases tb with
        | @cons b0 _ bs _ hb0 tb' =>
        have eX : X = M := by
          have hX := (wo.mem X).mpr ((kinM X).mpr ((mem X).mp List.mem_cons_self))
          refine lex_total X M (le.2 X hX) ?_
          rcases List.mem_cons.mp hM with e | h2
          · rw [← e]
            exact le.2 M le.1
          · exact (List.pairwise_cons.mp srt.rise).1 M h2
        subst eX
        have at0 : atI ((b0 :: bs).map V.ref) 0 = some (V.ref b0) := atI_nat (j := 0) rfl
        refine ⟨l, _, 0, _, rfl, rfl, SqL.of hl, at0, ?_⟩
        refine p_neD (dp_tupT (SqT.of (s9 _ _ hc8))) (dp_tupT (SqT.of hb0)) (shapedT _) (shapedT _) ⟨_, rfl, ?_⟩
        rw [eqvT, decide_eq_true rfl]
        exact iteF (hnx _ _ ⟨rfl, s9⟩)
    rintro σ9 H9 ⟨rfl, s9⟩
    have S9 := S8.same s9
    have ha9 := s9 _ _ ha8
    have hp9 := s9 _ _ hp8
    have hc9 := s9 _ _ hc8
    have ht9 := s9 _ _ ht8
    -- led there, one of the turns
    refine seq_gen (fun σ' H' => σ' = [some (.ref sc), some (.ref d), some (.int (n : Int)), some (.ref ml), some (.ref g), some (.ref pl), some (.int ti), some (.ref a), some (.ref p), l9, none] ∧ Same H9 H') (fun nx hnx => ?_) ?_
    · refine ⟨_, rfl, p, _, 1, _, rfl, rfl, SqT.of hp9, rfl, ⟨_, rfl, t, a, n, T, W, rfl, SqT.of ht9, tT, n1, by omega, SqT.of ha9, bW.1, bW.2, fun e H10 s10 he => ?_⟩⟩
      refine ⟨_, rfl, p, _, 0, _, rfl, rfl, SqT.of (s10 _ _ hp9), rfl, (p_neD (dp_tupT (SqT.of he)) (dp_tupT (SqT.of (s10 _ _ hc9))) (shapedT _) (shapedT _) ⟨_, rfl, ?_⟩)⟩
      rw [eqvT, decide_eq_true (show bitsOf n (imgs T W) = M from eT)]
      obtain ⟨dx, mk, c0, pl0, la, ga, wa, ma, ds, gs, ws, ms0, A0, _⟩ := (S9.G.same s10).at_
      refine iteF ⟨_, rfl, g, dx, _, rfl, A0.ob, rfl, _, rfl, p, _, 1, _, rfl, rfl, SqT.of (s10 _ _ hp9), rfl, ⟨g, n, fs, Ls, lv, ow, .ref t, some (T.map V.int), rfl, S9.G.same s10, ⟨t, rfl, SqT.of (s10 _ _ ht9), by rw [List.length_map, tT.len]; omega, fun y hy => ?_⟩, fun b H11 s11 hb => ?_⟩⟩
      · obtain ⟨z, _, rfl⟩ := List.mem_map.mp hy
        exact ⟨_, .int z⟩
      · rw [hb.mpr ⟨T, rfl, gT⟩]
        exact ⟨true, rfl, iteF (hnx _ _ ⟨rfl, Same.trans s10 s11⟩)⟩
    rintro σ10 H10 ⟨rfl, s10⟩
    have S10 := S9.same s10
    have ha10 := s10 _ _ ha9
    have hp10 := s10 _ _ hp9
    have hc10 := s10 _ _ hc9
    have ht10 := s10 _ _ ht9
    -- one of the products
    refine seq_gen (fun σ' H' => σ' = [some (.ref sc), some (.ref d), some (.int (n : Int)), some (.ref ml), some (.ref g), some (.ref pl), some (.int ti), some (.ref a), some (.ref p), l9, none] ∧ Same H10 H') (fun nx hnx => ?_) ?_
    · refine ⟨_, rfl, Nat.zero_le _, fun p0 hp0 => ?_⟩
      have s0 := Same.new (o := .lst []) hp0
      refine ⟨pl, p0, _, rfl, rfl, SqL.of (s0 _ _ S10.p), SqL.of upd_same, _, rfl, ?_⟩
      rcases pok with e | hall
      · have l0 := TupsAt.len S10.tp
        rw [e] at l0
        rw [List.eq_nil_of_length_eq_zero l0]
        exact iteF (hnx _ _ ⟨rfl, s0⟩)
      · cases hq : (!(ps.map V.ref).isEmpty) with
        | false => exact iteF (hnx _ _ ⟨rfl, s0⟩)
        | true =>
          refine iteT ⟨_, rfl, p, _, 1, _, rfl, rfl, SqT.of (s0 _ _ hp10), rfl, ⟨_, rfl, dTup T, Ps.map dTup, dp_tupT (SqT.of (s0 _ _ ht10)), dp_LL (SqL.of (s0 _ _ S10.p)) (S10.tp.same s0), shapedT _, shaped_LL _, _, rfl, ?_⟩⟩
          rw [any_LLz, decide_eq_true (hall T gT)]
          exact iteF (hnx _ _ ⟨rfl, s0⟩)
    rintro σ11 H11 ⟨rfl, s11⟩
    have S11 := S10.same s11
    have ha11 := s11 _ _ ha10
    have hp11 := s11 _ _ hp10
    have hc11 := s11 _ _ hc10
    have ht11 := s11 _ _ ht10
    -- odd
    refine seq_gen (fun σ' H' => ∃ (x : V) (xc : Option (List V)), σ' = [some (.ref sc), some (.ref d), some (.int (n : Int)), some (.ref ml), some (.ref g), some (.ref pl), some (.int ti), some (.ref a), some (.ref p), some x, none] ∧ LawS K C CC PT sc ns d ml g pl n fs Ls lv ow ms ps Ps H' ∧ Ex d H11 H' ∧ wsBZ xc (n : Int) = false ∧ Thing K H' x xc) (fun nx hnx => ?_) ?_
    · exact ⟨_, rfl, _, rfl, d, sc, a, n, ns, W, rfl, S11.D, ha11, bW, n1, by omega, fun x xc H12 E12 D12 wb sf => hnx _ _ ⟨x, xc, rfl, S11.ex D12 E12, E12, wb, sf _ .refl⟩⟩
    rintro σ12 H12 ⟨x, xc, rfl, S12, E12, wb, th⟩
    have tupd : ∀ {b : Addr} {ys : List V}, H11 b = some (.tup ys) → H12 b = some (.tup ys) := fun {b ys} h => E12 _ _ h fun z => by
      obtain ⟨_, D⟩ := S11.D
      rw [z, D.dr] at h
      cases h
    have ha12 := tupd ha11
    have hp12 := tupd hp11
    have hc12 := tupd hc11
    have ht12 := tupd ht11
    -- refused; the same again
    refine ⟨S12.T, fun H13 e13 T13 f0 p0 hp0 => ?_⟩
    have S13 := S12.ext e13 T13
    have th13 := Thing.extG e13 th
    have ha13 := e13 _ _ ha12 (by intro _ z; cases z)
    have hp13 := e13 _ _ hp12 (by intro _ z; cases z)
    have hc13 := e13 _ _ hc12 (by intro _ z; cases z)
    have ht13 := e13 _ _ ht12 (by intro _ z; cases z)
    have s14 := Same.new (o := .tup [.non, .non]) hp0
    refine ⟨_, rfl, _, rfl, g, x, n, fs, Ls, lv, ow, xc, rfl, S13.G.same s14, Thing.same s14 th13, wb, fun H15 s15 => ?_⟩
    refine ezf_of (fs := []) EK kT ⟨fun h => by omega, fun _ => rfl⟩ (.inl ⟨rfl, rfl⟩) fun H16 r s16 nr hr16 => ?_
    have s46 := Same.trans s14 (Same.trans s15 s16)
    refine ⟨by show 2 ≤ sizeLine; decide, fun r2 hr2 => ?_⟩
    have s17 := Same.new (o := .tup [.str "answer", .non]) hr2
    have dA : ∀ {Hx : Hp} {b : Addr}, Hx b = some (.tup [V.str "answer", V.non]) → Dp K Hx (.ref b) (.tuple [.str "answer", .none]) := fun h => .tup (SqT.of h) (.cons (.str _) (.cons .non .nil))
    refine p_neD (dA (s17 _ _ hr16)) (dA upd_same) shaped_ans shaped_ans ⟨_, rfl, ?_⟩
    refine iteF ?_
    have s37 := Same.trans s46 s17
    have S17 := S13.same s37
    refine ⟨_, rfl, _, rfl, rfl, ?_⟩
    refine ⟨g, a, n, fs, Ls, lv, ow, W, rfl, S17.G, SqT.of (s37 _ _ ha13), s37 _ _ ha13, bW, fun p2 c2 t2 M2 H18 s18 np2 hp2 hc2 ht2 le2 _ => ?_⟩
    rw [eW] at ht2 le2
    have e2 := le2.eq le
    subst e2
    rw [eTT] at ht2
    have s38 := Same.trans s37 s18
    refine ⟨_, rfl, p_neD (dp_pr hp2 hc2 ht2) (dp_pr (s38 _ _ hp13) (s38 _ _ hc13) (s38 _ _ ht13)) (shaped_pr _ _) (shaped_pr _ _) ⟨_, rfl, ?_⟩⟩
    rw [eqv_pr]
    exact iteF ⟨_, _, _, _, rfl, S13.same s38⟩
end
end Toy

-- part: LN
namespace Toy
open PySem PySem.Spec PyProof.Rows L2
/-- what is tracked at the start of a law without a table: the script at a, if it isn't of the written part -/
def H1of (K : PySem.W.Frag) (a : Addr) (vs : List Value) (ns : List Int) : Hp := fun b =>
  if b = a ∧ K.lookup a = none then some (.frz { cls := .type "list", data := .seq vs.toArray } (.lst (ns.map V.int))) else none
theorem FnOk.g {P : Program} {w : World} {K : PySem.W.Frag} {mg : Str → Option Value} {base : Heap} {k : Nat} {f : Addr} {fd : FuncData} {ps : List Str} {sp : Sp} (F : FnOk P w K mg base CX0 k f fd ps sp) : FnG P w K mg base k f fd ps sp :=
  ⟨F.len, fun A outer s H args us vs Q E _ hr e0 hb r hsp => F.run A outer s H args us vs Q E hr e0 hb r hsp⟩
/-- a law that makes no lambda, called where no object's text is under way -/
theorem callN {P : Program} {w : World} {K : PySem.W.Frag} {mg mb : Str → Option Value} {k : Nat} {fa a : Addr} {fd : FuncData} {x : Str} {sp : Sp} {s : Shared} {vs : List Value} {ns : List Int}
    (KX : K.In s.heap) (hns : s.heap.Ns mainGlobals mg) (hb : s.heap.Ns builtinsNs mb) (hbb : ∀ x : Str, x ≠ "__name__" → mb x = bootBuiltins x) (hlim : s.heap.NoLimit) (hg : s.gens = #[])
    (ha : s.heap.get? a = some { cls := .type "list", data := .seq vs.toArray }) (hi : IntsAre vs ns) (hl : ns.length ≤ sizeLine) (hr : Room k callerA)
    (F : ∀ base : Heap, K.In base → base.Ns mainGlobals mg → FnG P w K mg base k fa fd [x] sp) (hbind : ∀ (s : Shared) (u : Value), BindsTo s fd ⟨[u], []⟩ [(x, u)])
    (hsp : ∀ H : Hp, SqL K H a (ns.map V.int) → sp [.ref a] H (fun v _ => v = .bl true) E0) :
    codeAny (model P w) callerA (.call (.ref fa) ⟨[.ref a], []⟩) (fun r s' => r = .ok (.ret (.bool true)) ∧ OldK s.heap s'.heap ∧ s'.os = s.os ∧ AllBare s'.gens) s := by
  have rv := vals_ints hi
  have two : ∀ b, (b = a ∧ K.lookup a = none ∧ H1of K a vs ns b = some (.frz { cls := .type "list", data := .seq vs.toArray } (.lst (ns.map V.int)))) ∨ H1of K a vs ns b = none := fun b => by
    by_cases e2 : b = a ∧ K.lookup a = none
    · exact .inl ⟨e2.1, e2.2, if_pos e2⟩
    · exact .inr (if_neg e2)
  have hS : SqL K (H1of K a vs ns) a (ns.map V.int) := by
    cases hk : K.lookup a with
    | none => exact .inl (.inr ⟨_, if_pos ⟨rfl, hk⟩⟩)
    | some o =>
      have e := KX a o hk
      rw [ha] at e
      cases e
      exact .inr ⟨_, vs.toArray, _, hk, rfl, rfl, rfl, by rw [List.size_toArray, hi.length]; exact hl, rv⟩
  have hok : HOk P w (H1of K a vs ns) s.heap := fun b o e => by
    rcases two b with ⟨rfl, _, z⟩ | z <;> rw [z] at e <;> cases e
    exact ⟨ha, by rw [List.length_map]; exact hl, vs, _, rv, ha⟩
  have base_of : ∀ {b : Addr} {o : Obj}, s.heap.get? b = some o → H1of K a vs ns b = none → (hidT s.heap (H1of K a vs ns)).get? b = some o := fun e n => hidT_get e n
  have outD : ∀ {b : Addr} {o : Obj} {es : Array DictEntry} {n : Nat}, s.heap.get? b = some o → o.data = .dict es n → H1of K a vs ns b = none := fun {b o es n} e d => by
    rcases two b with ⟨rfl, _, _⟩ | z
    · rw [ha] at e
      cases e
      cases d
    · exact z
  have nsK : ∀ {b : Addr} {m : Str → Option Value}, s.heap.Ns b m → (hidT s.heap (H1of K a vs ns)).Ns b m := fun {b m} ⟨o, es, ep, e, d, r⟩ => ⟨o, es, ep, base_of e (outD e d), d, r⟩
  have hKb : K.In (hidT s.heap (H1of K a vs ns)) := fun b o e => base_of (KX b o e) (by
    rcases two b with ⟨rfl, z, _⟩ | z
    · rw [z] at e; cases e
    · exact z)
  have hM : L2.Mod K mg (hidT s.heap (H1of K a vs ns)) := ⟨hKb, nsK hns, ⟨mb, nsK hb, hbb⟩, let ⟨mc, h1, h2⟩ := hlim; ⟨mc, nsK h1, h2⟩⟩
  have e0 : Env0 P w K mg (hidT s.heap (H1of K a vs ns)) callerA [] s (H1of K a vs ns) := ⟨rfl, hM, fun b o e => of_hidT e, Nat.le_of_eq (hidT_size _ _), trivial, fun b hb => absurd (show b ∈ ([] : List Addr) from hb) (by simp), hok, .of_eq hg⟩
  refine codeAny_mono ((F _ hKb (nsK hns)).run callerA [] s _ ⟨[.ref a], []⟩ [.ref a] [.ref a] _ _ rfl hr e0 (hbind s (.ref a)) (.cons rfl .nil) (hsp _ hS)) fun r s' h => ?_
  cases r with
  | error e => exact False.elim h
  | ok fl =>
    cases fl with
    | next => exact False.elim h
    | brk => exact False.elim h
    | cont => exact False.elim h
    | ret u =>
      obtain ⟨v, H', os, bare, un, hok', r', q⟩ := h
      obtain rfl : v = .bl true := q
      obtain rfl : u = Value.bool true := r'
      have key : ∀ b o, s.heap.get? b = some o → s'.heap.get? b = some o := fun b o e => by
        rcases two b with ⟨rfl, _, z⟩ | z
        · obtain ⟨e1, _⟩ := hok b _ z
          obtain ⟨e2, _⟩ := hok' b _ (un.frzs b _ _ z)
          rw [e] at e1
          cases e1
          exact e2
        · exact un.keep b o e z (by intro z; exact absurd (show b ∈ ([] : List Addr) from z) (by simp)) (by simp)
      exact ⟨rfl, ⟨fun b o e => .inl (key b o e), fun b o e => ⟨o, key b o e⟩⟩, os, bare⟩
theorem walkN {l : PySem.W.OpenLaw} {n k : Nat} {q : Program} {loose : List Str} {XP : (Str → Option Value) → Heap → Prop} {YP : World → Heap → Prop} {d : DefRec} {x : Str}
    (hn : l.most = some n) (hn2 : n ≤ sizeLine) (hdf : d.params.defaults = []) (hr : Room k callerA)
    (F : ∀ (w : World) (mg : Str → Option Value) (fa : Addr) (h : Heap), YP w h → h.Ns mainGlobals mg → mg d.name = some (.ref fa) →
      ∃ (K : PySem.W.Frag) (fd : FuncData) (sp : Sp), K.In h ∧ (∀ (s : Shared) (u : Value), BindsTo s fd ⟨[u], []⟩ [(x, u)]) ∧
        (∀ (H : Hp) (a : Addr) (ns : List Int), ns.length ≤ n → SqL K H a (ns.map V.int) → sp [.ref a] H (fun v _ => v = .bl true) E0) ∧
        ∀ base : Heap, K.In base → base.Ns mainGlobals mg → FnG l.prog w K mg base k fa fd [x] sp) :
    PySem.W.WalkO q loose XP YP l.row.toRowW d [] (fun f vs => PySem.call f vs) := by
  refine Att.attach_callB hn hdf fun w s₀ s₁ mg mb fa o pm cd doc a vs ns G Y ho hd hcd hmg hobj hints hlen hbits hg => ?_
  obtain ⟨K, fd, sp, KX, hb, hsp, hF⟩ := F w mg fa _ Y G.T.g hmg
  exact callN KX G.T.g G.T.b G.T.builtins G.T.nolimit hg hobj hints (Nat.le_trans hlen hn2) hr hF hb (fun H hS => hsp H a ns hlen hS)
end Toy

-- part: LX
namespace Toy
open PySem PySem.Spec PyProof.Rows L2
open LamX (TabB)
/-- what is tracked at a law's start: the empty table at T, the script at a if it isn't of the written part -/
def H0of (K : PySem.W.Frag) (T a : Addr) (vs : List Value) (ns : List Int) : Hp := fun b =>
  if b = T then some (.tbl #[]) else if b = a ∧ K.lookup a = none then some (.frz { cls := .type "list", data := .seq vs.toArray } (.lst (ns.map V.int))) else none
/-- a law whose one def makes a lambda, called where no object's text is under way -/
theorem callG {P : Program} {w : World} {K : PySem.W.Frag} {mg mb : Str → Option Value} {k : Nat} {fa a c T : Addr} {fd : FuncData} {x : Str} {sp : Sp} {s : Shared} {vs : List Value} {ns : List Int}
    (KX : K.In s.heap) (hns : s.heap.Ns mainGlobals mg) (hb : s.heap.Ns builtinsNs mb) (hbb : ∀ x : Str, x ≠ "__name__" → mb x = bootBuiltins x) (hlim : s.heap.NoLimit) (hg : s.gens = #[])
    (hT : s.heap.get? T = some { cls := .none, data := .fields #[] }) (nT : K.lookup T = none) (C : PySem.W.CodeHd s.heap c T)
    (hbm : ∃ (bm : Addr) (ob : Obj), mg "__builtins__" = some (.ref bm) ∧ bm ≠ builtinsNs ∧ s.heap.get? bm = some ob ∧ ob.cls = .type "module" ∧ ob.dict = some builtinsNs ∧ ob.data = .plain)
    (ha : s.heap.get? a = some { cls := .type "list", data := .seq vs.toArray }) (hi : IntsAre vs ns) (hl : ns.length ≤ sizeLine) (hr : Room k callerA)
    (F : ∀ base : Heap, K.In base → base.Ns mainGlobals mg → TabB base mg c T → FnG P w K mg base k fa fd [x] sp) (hbind : ∀ (s : Shared) (u : Value), BindsTo s fd ⟨[u], []⟩ [(x, u)])
    (hsp : ∀ H : Hp, H T = some (.tbl #[]) → SqL K H a (ns.map V.int) → sp [.ref a] H (fun v _ => v = .bl true) E0) :
    codeAny (model P w) callerA (.call (.ref fa) ⟨[.ref a], []⟩) (fun r s' => r = .ok (.ret (.bool true)) ∧ OldK s.heap s'.heap ∧ s'.os = s.os ∧ AllBare s'.gens) s := by
  have rv := vals_ints hi
  have naT : a ≠ T := fun e => by rw [e, hT] at ha; cases ha
  have hHT : H0of K T a vs ns T = some (.tbl #[]) := if_pos rfl
  -- its three ways
  have ways : ∀ b, (b = T ∧ H0of K T a vs ns b = some (.tbl #[])) ∨ (b = a ∧ K.lookup a = none ∧ H0of K T a vs ns b = some (.frz { cls := .type "list", data := .seq vs.toArray } (.lst (ns.map V.int)))) ∨ H0of K T a vs ns b = none := fun b => by
    by_cases e : b = T
    · exact .inl ⟨e, if_pos e⟩
    · by_cases e2 : b = a ∧ K.lookup a = none
      · exact .inr (.inl ⟨e2.1, e2.2, (if_neg e).trans (if_pos e2)⟩)
      · exact .inr (.inr ((if_neg e).trans (if_neg e2)))
  have hS : SqL K (H0of K T a vs ns) a (ns.map V.int) := by
    cases hk : K.lookup a with
    | none => exact .inl (.inr ⟨_, (if_neg naT).trans (if_pos ⟨rfl, hk⟩)⟩)
    | some o =>
      have e := KX a o hk
      rw [ha] at e
      cases e
      exact .inr ⟨_, vs.toArray, _, hk, rfl, rfl, rfl, by rw [List.size_toArray, hi.length]; exact hl, rv⟩
  have hok : HOk P w (H0of K T a vs ns) s.heap := fun b o e => by
    rcases ways b with ⟨rfl, z⟩ | ⟨rfl, _, z⟩ | z <;> rw [z] at e <;> cases e
    · exact hT
    · exact ⟨ha, by rw [List.length_map]; exact hl, vs, _, rv, ha⟩
  have base_of : ∀ {b : Addr} {o : Obj}, s.heap.get? b = some o → H0of K T a vs ns b = none → (hidT s.heap (H0of K T a vs ns)).get? b = some o := fun e n => hidT_get e n
  -- an object that is neither a list nor an empty table isn't tracked
  have out : ∀ {b : Addr} {o : Obj}, s.heap.get? b = some o → o.cls ≠ .type "list" → o.data ≠ .fields #[] → H0of K T a vs ns b = none := fun {b o} e h1 h2 => by
    rcases ways b with ⟨rfl, _⟩ | ⟨rfl, _, _⟩ | z
    · rw [hT] at e
      cases e
      exact absurd rfl h2
    · rw [ha] at e
      cases e
      exact absurd rfl h1
    · exact z
  have outD : ∀ {b : Addr} {o : Obj} {es : Array DictEntry} {n : Nat}, s.heap.get? b = some o → o.data = .dict es n → H0of K T a vs ns b = none := fun {b o es n} e d => by
    rcases ways b with ⟨rfl, _⟩ | ⟨rfl, _, _⟩ | z
    · rw [hT] at e
      cases e
      cases d
    · rw [ha] at e
      cases e
      cases d
    · exact z
  have nsK : ∀ {b : Addr} {m : Str → Option Value}, s.heap.Ns b m → (hidT s.heap (H0of K T a vs ns)).Ns b m := fun {b m} ⟨o, es, ep, e, d, r⟩ => ⟨o, es, ep, base_of e (outD e d), d, r⟩
  have hKb : K.In (hidT s.heap (H0of K T a vs ns)) := fun b o e => base_of (KX b o e) (by
    rcases ways b with ⟨rfl, _⟩ | ⟨rfl, z, _⟩ | z
    · rw [nT] at e; cases e
    · rw [z] at e; cases e
    · exact z)
  have hM : L2.Mod K mg (hidT s.heap (H0of K T a vs ns)) := ⟨hKb, nsK hns, ⟨mb, nsK hb, hbb⟩, let ⟨mc, h1, h2⟩ := hlim; ⟨mc, nsK h1, h2⟩⟩
  have TB : TabB (hidT s.heap (H0of K T a vs ns)) mg c T := by
    refine ⟨?_, ?_, fun z => ?_⟩
    · obtain ⟨o, us, file, tf, flags, tg, inF, text, tt, e1, r1, r2, r3, rest⟩ := C
      refine ⟨o, us, file, tf, flags, tg, inF, text, tt, base_of e1 ?_, r1, r2, r3, rest⟩
      rcases ways c with ⟨e, _⟩ | ⟨e, _, _⟩ | z
      · rw [e, hT] at e1
        cases e1
        cases r2
        simp at r3
      · rw [e, ha] at e1
        cases e1
        cases r2
      · exact z
    · obtain ⟨bm, ob, b1, b2, b3, b4, b5, b6⟩ := hbm
      refine ⟨bm, ob, b1, b2, fun q => ?_, fun q => ?_, base_of b3 (out b3 (by rw [b4]; decide) (by rw [b6]; intro z; cases z)), b4, b5, b6⟩
      · obtain ⟨o, es, ep, e, hd, _⟩ := hns
        rw [q, e] at b3
        cases b3
        rw [hd] at b6
        cases b6
      · rw [q, hT] at b3
        cases b3
        cases b6
    · obtain ⟨o, es, ep, e, hd, _⟩ := hns
      rw [z, hT] at e
      cases e
      cases hd
  have e0 : Env0 P w K mg (hidT s.heap (H0of K T a vs ns)) callerA [] s (H0of K T a vs ns) := ⟨rfl, hM, fun b o e => of_hidT e, Nat.le_of_eq (hidT_size _ _), trivial, fun b hb => absurd (show b ∈ ([] : List Addr) from hb) (by simp), hok, .of_eq hg⟩
  refine codeAny_mono ((F _ hKb (nsK hns) TB).run callerA [] s _ ⟨[.ref a], []⟩ [.ref a] [.ref a] _ _ rfl hr e0 (hbind s (.ref a)) (.cons rfl .nil) (hsp _ hHT hS)) fun r s' h => ?_
  cases r with
  | error e => exact False.elim h
  | ok fl =>
    cases fl with
    | next => exact False.elim h
    | brk => exact False.elim h
    | cont => exact False.elim h
    | ret u =>
      obtain ⟨v, H', os, bare, un, hok', r', q⟩ := h
      obtain rfl : v = .bl true := q
      obtain rfl : u = Value.bool true := r'
      obtain ⟨more, z⟩ := un.tbls T #[] hHT
      have grown := hok' T _ z
      have key : ∀ b o, b ≠ T → s.heap.get? b = some o → s'.heap.get? b = some o := fun b o nb e => by
        rcases ways b with ⟨z, _⟩ | ⟨rfl, _, z⟩ | z
        · exact absurd z nb
        · obtain ⟨e1, _⟩ := hok b _ z
          obtain ⟨e2, _⟩ := hok' b _ (un.frzs b _ _ z)
          rw [e] at e1
          cases e1
          exact e2
        · exact un.keep b o e z (by intro z; exact absurd (show b ∈ ([] : List Addr) from z) (by simp)) (by simp)
      refine ⟨rfl, ⟨fun b o e => ?_, fun b o e => ?_⟩, os, bare⟩
      · by_cases hbT : b = T
        · subst hbT
          rw [hT] at e
          cases e
          exact .inr (.inl ⟨(C.tab hT).isCodeTable, rfl, #[], more, rfl, grown⟩)
        · exact .inl (key b o hbT e)
      · by_cases hbT : b = T
        · subst hbT
          exact ⟨_, grown⟩
        · exact ⟨o, key b o hbT e⟩
theorem walkG {l : PySem.W.OpenLaw} {n k : Nat} {q : Program} {loose : List Str} {XP : (Str → Option Value) → Heap → Prop} {YP : World → Heap → Prop} {d : DefRec} {x : Str}
    (hn : l.most = some n) (hn2 : n ≤ sizeLine) (hdf : d.params.defaults = []) (hr : Room k callerA)
    (F : ∀ (w : World) (mg : Str → Option Value) (fa : Addr) (h : Heap), YP w h → h.Ns mainGlobals mg → mg d.name = some (.ref fa) →
      ∃ (K : PySem.W.Frag) (fd : FuncData) (sp : Sp) (c T : Addr), K.In h ∧ h.get? T = some { cls := .none, data := .fields #[] } ∧ K.lookup T = none ∧ PySem.W.CodeHd h c T ∧ (∀ (s : Shared) (u : Value), BindsTo s fd ⟨[u], []⟩ [(x, u)]) ∧
        (∀ (H : Hp) (a : Addr) (ns : List Int), ns.length ≤ n → H T = some (.tbl #[]) → SqL K H a (ns.map V.int) → sp [.ref a] H (fun v _ => v = .bl true) E0) ∧
        ∀ base : Heap, K.In base → base.Ns mainGlobals mg → TabB base mg c T → FnG l.prog w K mg base k fa fd [x] sp) :
    PySem.W.WalkO q loose XP YP l.row.toRowW d [] (fun f vs => PySem.call f vs) := by
  refine Att.attach_callB hn hdf fun w s₀ s₁ mg mb fa o pm cd doc a vs ns G Y ho hd hcd hmg hobj hints hlen hbits hg => ?_
  obtain ⟨K, fd, sp, c, T, KX, hT, nT, C, hb, hsp, hF⟩ := F w mg fa _ Y G.T.g hmg
  exact callG KX G.T.g G.T.b G.T.builtins G.T.nolimit hg hT nT C G.T.bmain hobj hints (Nat.le_trans hlen hn2) hr hF hb (fun H hH hS => hsp H a ns hlen hH hS)
end Toy

-- part: LE0
namespace Toy
open PySem PySem.Spec PyProof.Rows L2
def dT (x : Str) (st : Stmt) : He.DefD := ⟨(x, none), x, x, defArgs st, defBody st, defScope st, [], []⟩
def kwdAt (f : Str × Option Str) (x : Str) (K : PySem.W.Frag) : Addr := match K.lookup (He.fAd K f) with
  | some ⟨_, _, .func fd, _⟩ => (match fd.kwdefaults with
    | .ref D => (match PySem.W.nsIn K D x with
      | some (some (.ref a)) => a
      | _ => 0)
    | _ => 0)
  | _ => 0
def a_Group___init___0 : PySem.W.Frag → Addr := He.dflAt ("Group", some "__init__") 0
def a_Group___init___base : PySem.W.Frag → Addr := kwdAt ("Group", some "__init__") "base"
def dM_Group___init__ : He.DefD := ⟨("Group", some "__init__"), "__init__", "Group.__init__", defArgs m_Group___init__, defBody m_Group___init__, defScope m_Group___init__, [.adr a_Group___init___0], [("base", .adr a_Group___init___base)]⟩
def dM_Group_size : He.DefD := ⟨("Group", some "size"), "size", "Group.size", defArgs m_Group_size, defBody m_Group_size, defScope m_Group_size, [], []⟩
def dM_Group_has : He.DefD := ⟨("Group", some "has"), "has", "Group.has", defArgs m_Group_has, defBody m_Group_has, defScope m_Group_has, [], []⟩
def dM_Group_truths : He.DefD := ⟨("Group", some "truths"), "truths", "Group.truths", defArgs m_Group_truths, defBody m_Group_truths, defScope m_Group_truths, [], []⟩
def dM_Group_makers : He.DefD := ⟨("Group", some "makers"), "makers", "Group.makers", defArgs m_Group_makers, defBody m_Group_makers, defScope m_Group_makers, [], []⟩
def dM_Chain___init__ : He.DefD := ⟨("Chain", some "__init__"), "__init__", "Chain.__init__", defArgs m_Chain___init__, defBody m_Chain___init__, defScope m_Chain___init__, [], []⟩
def dM_Chain_size : He.DefD := ⟨("Chain", some "size"), "size", "Chain.size", defArgs m_Chain_size, defBody m_Chain_size, defScope m_Chain_size, [], []⟩
def dM_Chain_holds : He.DefD := ⟨("Chain", some "holds"), "holds", "Chain.holds", defArgs m_Chain_holds, defBody m_Chain_holds, defScope m_Chain_holds, [], []⟩
def dM_Chain_put : He.DefD := ⟨("Chain", some "put"), "put", "Chain.put", defArgs m_Chain_put, defBody m_Chain_put, defScope m_Chain_put, [], []⟩
def fnK : List He.DefD := [dT "_wall" (topS 0), dT "is_number" (topS 19), dT "is_list" (topS 20), dT "is_letter" (topS 21), dT "is_worths" (topS 22), dT "worth_table" (topS 23), dT "is_turn" (topS 26), dT "still" (topS 27), dT "_is_many" (topS 28), dT "goes" (topS 29), dT "table_of" (topS 30), dT "led_on" (topS 31), dT "led_back" (topS 32), dT "_chain_of" (topS 38), dT "_unlike_makers" (topS 39), dT "_base_letters" (topS 40), dT "_rising" (topS 41), dT "least" (topS 43), dT "_ways_from" (topS 44), dT "_law_mixed" (topS 46), dT "_law_next" (topS 47), dT "_law_turn" (topS 48), dT "_law_based" (topS 49), dT "_law_goes" (topS 50), dT "_law_led_answer" (topS 51), dT "_law_joined" (topS 52), dT "_law_products" (topS 53), dT "_law_kin" (topS 54), dT "_law_word" (topS 55), dT "_law_told" (topS 56), dT "_law_answer" (topS 57), dT "_law_none" (topS 58), dT "law" (topS 59), dM_Group___init__, dM_Group_size, dM_Group_has, dM_Group_truths, dM_Group_makers, dM_Chain___init__, dM_Chain_size, dM_Chain_holds, dM_Chain_put]
def faK : List He.Fa := [.glo "_wall", .glo "is_number", .glo "is_list", .glo "is_letter", .glo "is_worths", .glo "worth_table", .glo "is_turn", .glo "still", .glo "_is_many", .glo "goes", .glo "table_of", .glo "led_on", .glo "led_back", .glo "_chain_of", .glo "_unlike_makers", .glo "_base_letters", .glo "_rising", .glo "least", .glo "_ways_from", .glo "_law_mixed", .glo "_law_next", .glo "_law_turn", .glo "_law_based", .glo "_law_goes", .glo "_law_led_answer", .glo "_law_joined", .glo "_law_products", .glo "_law_kin", .glo "_law_word", .glo "_law_told", .glo "_law_answer", .glo "_law_none", .glo "law", .int "MOST" 400, .int "MOST_TRUTHS" 12, .int "_MOST_MAKERS" 60, .glo "NoProblem", .glo "NoClause", .glo "TooMany", .glo "NoText", .glo "NoTurn", .glo "NoLetter", .glo "NotThere", .glo "NoStep", .glo "NoLog", .glo "NoWay", .glo "NoPart", .glo "NoAnswer", .glo "NoAsk", .glo "Twice", .glo "NoDeed", .glo "TurnError", .glo "Group", .cls "Group", .noat "Group" "_many", .noat "Group" "_makers", .noat "Group" "_chain", .noat "Group" "_places", .mkr "Group", .meth "Group" "size", .meth "Group" "has", .meth "Group" "truths", .meth "Group" "makers", .glo "Chain", .cls "Chain", .noat "Chain" "letters", .noat "Chain" "goals", .noat "Chain" "ways_back", .noat "Chain" "_made_by", .mkr "Chain", .meth "Chain" "size", .meth "Chain" "holds", .meth "Chain" "put"]
def faB : List He.Fa := [.free "max", .free "min", .free "len", .free "range", .free "type", .free "int", .free "list", .free "tuple", .free "dict", .free "bool", .free "abs", .free "sorted", .free "enumerate", .free "isinstance", .free "repr", .free "str", .free "all", .free "any", .free "zip", .free "reversed", .free "sum", .free "set", .free "ValueError"]
def tup0B (K : PySem.W.Frag) (a : Addr) : Bool := match K.lookup a with
  | some ⟨.type c, _, .seq its _, _⟩ => decide (c = "tuple") && decide (its.size = 0)
  | _ => false
def csE (K : PySem.W.Frag) : Nat → Addr
  | 0 => He.ga K "NoProblem"
  | 1 => He.ga K "NoClause"
  | 2 => He.ga K "TooMany"
  | 3 => He.ga K "NoText"
  | 4 => He.ga K "NoTurn"
  | 5 => He.ga K "NoLetter"
  | 6 => He.ga K "NotThere"
  | 7 => He.ga K "NoStep"
  | 8 => He.ga K "NoLog"
  | 9 => He.ga K "NoWay"
  | 10 => He.ga K "NoPart"
  | 11 => He.ga K "NoAnswer"
  | 12 => He.ga K "NoAsk"
  | 13 => He.ga K "Twice"
  | 14 => He.ga K "NoDeed"
  | _ => He.ga K "TurnError"
def excCB (K : PySem.W.Frag) (C : Addr) : Bool := decide (PySem.W.findIn K (.ref C) "__getattribute__" = some (some (.builtin "BaseException.__getattribute__"))) && (decide (PySem.W.findIn K (.ref C) "__getattr__" = some none) && (decide (PySem.W.subIn K (.ref C) (.type "BaseException") = some true) && (PySem.W.hasDictIn K C && (decide (PySem.W.findIn K (.ref C) "__class__" = some (some (.builtin "object.__class__"))) && (decide (PySem.W.specialIn K (.builtin "object.__class__") "__get__" = some (some (.builtin "getset_descriptor.__get__"))) && (decide (PySem.W.takesIn K (.builtin "object.__class__") = some true) && decide (PySem.W.mroIn K C (.type "object") = some true)))))))
def errB (K : PySem.W.Frag) (C : Addr) (j : Nat) : Bool := excCB K C && ((List.range 15).all (fun i => decide (PySem.W.kitOne K (.ref C) (.ref (csE K i)) = some (decide (i = j)))) && (decide (PySem.W.kitOne K (.ref C) (.type "ValueError") = some true) && decide (PySem.W.exmOne K (.ref C) (.ref (csE K 15)) = some true)))
def ownB (K : PySem.W.Frag) (C : Addr) : Bool := PySem.W.excIn K C [.type "ValueError", .type "Exception", .type "BaseException", .type "object"] "ValueError.__new__" && (PySem.W.keepIn K (.ref C) && (decide (PySem.W.subIn K (.ref C) (.type "BaseException") = some true) && decide (PySem.W.typeIn K (.ref C) = some (.type "type"))))
def exK (K : PySem.W.Frag) : Bool := errB K (He.ga K "NoAnswer") 11 && (ownB K (He.ga K "NoAnswer") && (decide (PySem.W.kitOne K (.ref (He.ga K "NoAnswer")) (.ref (csE K 15)) = some true) && (tup0B K (a_Group___init___0 K) && (tup0B K (a_Group___init___base K)))))
abbrev R : PySem.W.OpenRow := PySem.W.OpenLaw.row PySem.Challenge.rw_turnless_k55_least_of_a_kind
abbrev tfK : List He.Defn := [("law", none)]
abbrev hk : PySem.W.Hook := He.hookX 6 (faK ++ faB) fnK [] tfK exK
def ob (s : PySem.W.SharedT) : He.AlX := He.obsX 6 (faK ++ faB) fnK [] tfK exK (HandSHeadRun.getT s)
theorem ob_eq (s : PySem.W.SharedT) : ob s = hk.obs s.abs := He.obsX_eq (HandSHeadRun.getT_eq s)
def loose0 : List Str := ["_wall", "TurnError", "NoProblem", "NoClause", "TooMany", "NoText", "NoTurn", "NoLetter", "NotThere", "NoStep", "NoLog", "NoWay", "NoPart", "NoAnswer", "NoAsk", "Twice", "NoDeed", "is_number", "is_list", "is_letter"]
def loose1 : List Str := ["is_worths", "worth_table", "MOST", "is_turn", "still", "_is_many", "goes", "table_of", "led_on", "led_back", "MOST_TRUTHS", "_MOST_MAKERS", "Group", "Chain", "_chain_of", "_unlike_makers", "_base_letters", "_rising", "least", "_ways_from"]
def loose2 : List Str := ["_law_mixed", "_law_next", "_law_turn", "_law_based", "_law_goes", "_law_led_answer", "_law_joined", "_law_products", "_law_kin", "_law_word", "_law_told", "_law_answer", "_law_none"]
def loose : List Str := loose0 ++ loose1 ++ loose2
theorem run (w : World) : HandSHeadRun.RunEq R (PySem.W.view R.prog [59]) hk ob 8000 loose w := by
  intro os
  kernel_rfl
end Toy

-- part: LF
namespace Toy
open PySem PySem.Spec PyProof.Rows L2
open LamX (TabB Tabs TabS)
section
variable {P : Program} {w : World} {K : PySem.W.Frag} {mg : Str → Option Value} {h : Heap}
theorem fun_of {x q : Str} {st : Stmt} {f : Addr} {fd : FuncData} (F : FunD K x q (defArgs st) (defBody st) (defScope st) [] [] f fd) : Fun K x q st f fd := by
  obtain ⟨oc, od, dV, kV, doc, pm, an, cdv, ct, osl, e, lk, hcd, hD, _⟩ := F.ex
  rcases hD with ⟨_, rfl⟩ | ⟨n, _⟩
  · exact ⟨⟨oc, od, kV, doc, pm, an, cdv, ct, osl, e, lk, hcd⟩, F.kp⟩
  · exact absurd rfl n
theorem funT_of {x : Str} {st : Stmt} {fd : FuncData} (F : FunD K x x (defArgs st) (defBody st) (defScope st) [] [] (He.fAd K (x, none)) fd) : FunT K x x st (He.codeOf K (x, none)) (He.fAd K (x, none)) fd := by
  obtain ⟨oc, od, dV, kV, doc, pm, an, cdv, ct, osl, e, lk, hcd, hD, _⟩ := F.ex
  obtain ⟨c, rfl⟩ := He.codeIn_ref hcd
  have ec : He.codeOf K (x, none) = c := He.codeOf_eq lk (by rw [e])
  rw [ec]
  rcases hD with ⟨_, rfl⟩ | ⟨n, _⟩
  · exact ⟨⟨oc, od, kV, doc, pm, an, ct, osl, e, lk, hcd⟩, F.kp⟩
  · exact absurd rfl n
theorem df {x : Str} {st : Stmt} {ps : List Str} {fd : FuncData} (X : K.In h) (G : h.Ns mainGlobals mg) (c : (He.Fa.glo x).ok K = true) (F : FunD K x x (defArgs st) (defBody st) (defScope st) [] [] (He.fAd K (x, none)) fd)
    (hb : ∀ (kV doc pm : Value) (an : Option Addr) (cdv ct : Value) (us : List Value), us.length = ps.length → bindArgs (PySem.W.fnOf x x (defArgs st) (defBody st) (defScope st) .none kV doc pm an cdv ct) ⟨us, []⟩ = pure (ps.zip us)) : Df K mg x st ps (He.fAd K (x, none)) fd :=
  ⟨fun_of F, He.glo_ok X G c, (fun_of F).binds hb⟩
theorem excC_of {C : Addr} (e : excCB K C = true) : ExcC K C := by
  unfold excCB at e
  obtain ⟨e1, e⟩ := He.ba e
  obtain ⟨e2, e⟩ := He.ba e
  obtain ⟨e3, e⟩ := He.ba e
  obtain ⟨e4, e⟩ := He.ba e
  obtain ⟨e5, e⟩ := He.ba e
  obtain ⟨e6, e⟩ := He.ba e
  obtain ⟨e7, e8⟩ := He.ba e
  exact ⟨of_decide_eq_true e1, of_decide_eq_true e2, of_decide_eq_true e3, e4, of_decide_eq_true e5, of_decide_eq_true e6, of_decide_eq_true e7, of_decide_eq_true e8⟩
theorem errK_of {C : Addr} {j : Nat} (hj : j < 15) (e : errB K C j = true) : ErrK K (csE K) C j := by
  unfold errB at e
  obtain ⟨e1, e⟩ := He.ba e
  obtain ⟨e2, e⟩ := He.ba e
  obtain ⟨e3, e4⟩ := He.ba e
  exact ⟨hj, excC_of e1, fun i hi => of_decide_eq_true (List.all_eq_true.mp e2 i (List.mem_range.mpr hi)), of_decide_eq_true e3, of_decide_eq_true e4⟩
theorem ownX_of {x : Str} {C : Addr} (g : mg x = some (.ref C)) (e : ownB K C = true) : OwnX K mg x C := by
  unfold ownB at e
  obtain ⟨e1, e⟩ := He.ba e
  obtain ⟨e2, e⟩ := He.ba e
  obtain ⟨e3, e4⟩ := He.ba e
  exact ⟨g, e1, e2, of_decide_eq_true e3, of_decide_eq_true e4⟩
theorem tup0_of {a : Addr} (e : tup0B K a = true) : SqT K (fun _ => none) a [] := by
  unfold tup0B at e
  split at e
  · rename_i c d its n sl lk
    obtain ⟨e1, e2⟩ := He.ba e
    have e1 : c = "tuple" := of_decide_eq_true e1
    have e2 : its.size = 0 := of_decide_eq_true e2
    subst e1
    obtain rfl : its = #[] := Array.eq_empty_of_size_eq_zero e2
    exact .inr ⟨_, #[], n, lk, rfl, rfl, Nat.zero_le _, .nil⟩
  · cases e
theorem facts {f : Addr} (X : K.In h) (G : h.Ns mainGlobals mg) (hfa : mg ("law" : Str) = some (.ref f)) (c : He.SaysX (faK ++ faB) fnK [] tfK exK w h K) :
    ∃ (fd : FuncData), (∀ (s : Shared) (u : Value), BindsTo s fd ⟨[u], []⟩ [("script", u)]) ∧ ∀ base : Heap, K.In base → base.Ns mainGlobals mg → TabB base mg (He.cT K ("law", none)).1 (He.cT K ("law", none)).2 → FnG P w K mg base 21 f fd ["script"] (spLaw K [((He.cT K ("law", none)).2, qLam)]) := by
  have d := c.t.d
  obtain ⟨_, F0⟩ := d.def_ 0 (d := dT "_wall" (topS 0)) rfl
  obtain ⟨_, F1⟩ := d.def_ 1 (d := dT "is_number" (topS 19)) rfl
  obtain ⟨_, F2⟩ := d.def_ 2 (d := dT "is_list" (topS 20)) rfl
  obtain ⟨_, F3⟩ := d.def_ 3 (d := dT "is_letter" (topS 21)) rfl
  obtain ⟨_, F4⟩ := d.def_ 4 (d := dT "is_worths" (topS 22)) rfl
  obtain ⟨_, F5⟩ := d.def_ 5 (d := dT "worth_table" (topS 23)) rfl
  obtain ⟨_, F6⟩ := d.def_ 6 (d := dT "is_turn" (topS 26)) rfl
  obtain ⟨_, F7⟩ := d.def_ 7 (d := dT "still" (topS 27)) rfl
  obtain ⟨_, F8⟩ := d.def_ 8 (d := dT "_is_many" (topS 28)) rfl
  obtain ⟨_, F9⟩ := d.def_ 9 (d := dT "goes" (topS 29)) rfl
  obtain ⟨_, F10⟩ := d.def_ 10 (d := dT "table_of" (topS 30)) rfl
  obtain ⟨_, F11⟩ := d.def_ 11 (d := dT "led_on" (topS 31)) rfl
  obtain ⟨_, F12⟩ := d.def_ 12 (d := dT "led_back" (topS 32)) rfl
  obtain ⟨_, F13⟩ := d.def_ 13 (d := dT "_chain_of" (topS 38)) rfl
  obtain ⟨_, F14⟩ := d.def_ 14 (d := dT "_unlike_makers" (topS 39)) rfl
  obtain ⟨_, F15⟩ := d.def_ 15 (d := dT "_base_letters" (topS 40)) rfl
  obtain ⟨_, F16⟩ := d.def_ 16 (d := dT "_rising" (topS 41)) rfl
  obtain ⟨_, F17⟩ := d.def_ 17 (d := dT "least" (topS 43)) rfl
  obtain ⟨_, F18⟩ := d.def_ 18 (d := dT "_ways_from" (topS 44)) rfl
  obtain ⟨_, F19⟩ := d.def_ 19 (d := dT "_law_mixed" (topS 46)) rfl
  obtain ⟨_, F20⟩ := d.def_ 20 (d := dT "_law_next" (topS 47)) rfl
  obtain ⟨_, F21⟩ := d.def_ 21 (d := dT "_law_turn" (topS 48)) rfl
  obtain ⟨_, F22⟩ := d.def_ 22 (d := dT "_law_based" (topS 49)) rfl
  obtain ⟨_, F23⟩ := d.def_ 23 (d := dT "_law_goes" (topS 50)) rfl
  obtain ⟨_, F24⟩ := d.def_ 24 (d := dT "_law_led_answer" (topS 51)) rfl
  obtain ⟨_, F25⟩ := d.def_ 25 (d := dT "_law_joined" (topS 52)) rfl
  obtain ⟨_, F26⟩ := d.def_ 26 (d := dT "_law_products" (topS 53)) rfl
  obtain ⟨_, F27⟩ := d.def_ 27 (d := dT "_law_kin" (topS 54)) rfl
  obtain ⟨_, F28⟩ := d.def_ 28 (d := dT "_law_word" (topS 55)) rfl
  obtain ⟨_, F29⟩ := d.def_ 29 (d := dT "_law_told" (topS 56)) rfl
  obtain ⟨_, F30⟩ := d.def_ 30 (d := dT "_law_answer" (topS 57)) rfl
  obtain ⟨_, F31⟩ := d.def_ 31 (d := dT "_law_none" (topS 58)) rfl
  obtain ⟨fd, F32⟩ := d.def_ 32 (d := dT "law" (topS 59)) rfl
  have D__wall := df (x := "_wall") (st := topS 0) (ps := ["k"]) X G (d.fact 0 (f := .glo "_wall") rfl) F0 fun _ _ _ _ _ _ us hl => match us, hl with | [_], _ => rfl
  have D_is_number := df (x := "is_number") (st := topS 19) (ps := ["thing"]) X G (d.fact 1 (f := .glo "is_number") rfl) F1 fun _ _ _ _ _ _ us hl => match us, hl with | [_], _ => rfl
  have D_is_list := df (x := "is_list") (st := topS 20) (ps := ["thing"]) X G (d.fact 2 (f := .glo "is_list") rfl) F2 fun _ _ _ _ _ _ us hl => match us, hl with | [_], _ => rfl
  have D_is_letter := df (x := "is_letter") (st := topS 21) (ps := ["thing", "many"]) X G (d.fact 3 (f := .glo "is_letter") rfl) F3 fun _ _ _ _ _ _ us hl => match us, hl with | [_, _], _ => rfl
  have D_is_worths := df (x := "is_worths") (st := topS 22) (ps := ["thing", "many"]) X G (d.fact 4 (f := .glo "is_worths") rfl) F4 fun _ _ _ _ _ _ us hl => match us, hl with | [_, _], _ => rfl
  have D_worth_table := df (x := "worth_table") (st := topS 23) (ps := ["worths"]) X G (d.fact 5 (f := .glo "worth_table") rfl) F5 fun _ _ _ _ _ _ us hl => match us, hl with | [_], _ => rfl
  have D_is_turn := df (x := "is_turn") (st := topS 26) (ps := ["thing", "many"]) X G (d.fact 6 (f := .glo "is_turn") rfl) F6 fun _ _ _ _ _ _ us hl => match us, hl with | [_, _], _ => rfl
  have D_still := df (x := "still") (st := topS 27) (ps := ["many"]) X G (d.fact 7 (f := .glo "still") rfl) F7 fun _ _ _ _ _ _ us hl => match us, hl with | [_], _ => rfl
  have D__is_many := df (x := "_is_many") (st := topS 28) (ps := ["thing"]) X G (d.fact 8 (f := .glo "_is_many") rfl) F8 fun _ _ _ _ _ _ us hl => match us, hl with | [_], _ => rfl
  have D_goes := df (x := "goes") (st := topS 29) (ps := ["turn", "letter"]) X G (d.fact 9 (f := .glo "goes") rfl) F9 fun _ _ _ _ _ _ us hl => match us, hl with | [_, _], _ => rfl
  have D_table_of := df (x := "table_of") (st := topS 30) (ps := ["turn"]) X G (d.fact 10 (f := .glo "table_of") rfl) F10 fun _ _ _ _ _ _ us hl => match us, hl with | [_], _ => rfl
  have D_led_on := df (x := "led_on") (st := topS 31) (ps := ["turn", "table"]) X G (d.fact 11 (f := .glo "led_on") rfl) F11 fun _ _ _ _ _ _ us hl => match us, hl with | [_, _], _ => rfl
  have D_led_back := df (x := "led_back") (st := topS 32) (ps := ["turn"]) X G (d.fact 12 (f := .glo "led_back") rfl) F12 fun _ _ _ _ _ _ us hl => match us, hl with | [_], _ => rfl
  have D__chain_of := df (x := "_chain_of") (st := topS 38) (ps := ["many", "firsts", "makers"]) X G (d.fact 13 (f := .glo "_chain_of") rfl) F13 fun _ _ _ _ _ _ us hl => match us, hl with | [_, _, _], _ => rfl
  have D__unlike_makers := df (x := "_unlike_makers") (st := topS 39) (ps := ["makers", "many"]) X G (d.fact 14 (f := .glo "_unlike_makers") rfl) F14 fun _ _ _ _ _ _ us hl => match us, hl with | [_, _], _ => rfl
  have D__base_letters := df (x := "_base_letters") (st := topS 40) (ps := ["base", "many"]) X G (d.fact 15 (f := .glo "_base_letters") rfl) F15 fun _ _ _ _ _ _ us hl => match us, hl with | [_, _], _ => rfl
  have D__rising := df (x := "_rising") (st := topS 41) (ps := ["floor"]) X G (d.fact 16 (f := .glo "_rising") rfl) F16 fun _ _ _ _ _ _ us hl => match us, hl with | [_], _ => rfl
  have D_least := df (x := "least") (st := topS 43) (ps := ["group", "answer"]) X G (d.fact 17 (f := .glo "least") rfl) F17 fun _ _ _ _ _ _ us hl => match us, hl with | [_, _], _ => rfl
  have D__ways_from := df (x := "_ways_from") (st := topS 44) (ps := ["group", "answer"]) X G (d.fact 18 (f := .glo "_ways_from") rfl) F18 fun _ _ _ _ _ _ us hl => match us, hl with | [_, _], _ => rfl
  have D__law_mixed := df (x := "_law_mixed") (st := topS 46) (ps := ["cell", "k"]) X G (d.fact 19 (f := .glo "_law_mixed") rfl) F19 fun _ _ _ _ _ _ us hl => match us, hl with | [_, _], _ => rfl
  have D__law_next := df (x := "_law_next") (st := topS 47) (ps := ["draw", "size"]) X G (d.fact 20 (f := .glo "_law_next") rfl) F20 fun _ _ _ _ _ _ us hl => match us, hl with | [_, _], _ => rfl
  have D__law_turn := df (x := "_law_turn") (st := topS 48) (ps := ["draw", "many"]) X G (d.fact 21 (f := .glo "_law_turn") rfl) F21 fun _ _ _ _ _ _ us hl => match us, hl with | [_, _], _ => rfl
  have D__law_based := df (x := "_law_based") (st := topS 49) (ps := ["draw", "many", "makers"]) X G (d.fact 22 (f := .glo "_law_based") rfl) F22 fun _ _ _ _ _ _ us hl => match us, hl with | [_, _, _], _ => rfl
  have D__law_goes := df (x := "_law_goes") (st := topS 50) (ps := ["turn", "letter"]) X G (d.fact 23 (f := .glo "_law_goes") rfl) F23 fun _ _ _ _ _ _ us hl => match us, hl with | [_, _], _ => rfl
  have D__law_led_answer := df (x := "_law_led_answer") (st := topS 51) (ps := ["turn", "bits"]) X G (d.fact 24 (f := .glo "_law_led_answer") rfl) F24 fun _ _ _ _ _ _ us hl => match us, hl with | [_, _], _ => rfl
  have D__law_joined := df (x := "_law_joined") (st := topS 52) (ps := ["one", "other"]) X G (d.fact 25 (f := .glo "_law_joined") rfl) F25 fun _ _ _ _ _ _ us hl => match us, hl with | [_, _], _ => rfl
  have D__law_products := df (x := "_law_products") (st := topS 53) (ps := ["many", "makers"]) X G (d.fact 26 (f := .glo "_law_products") rfl) F26 fun _ _ _ _ _ _ us hl => match us, hl with | [_, _], _ => rfl
  have D__law_kin := df (x := "_law_kin") (st := topS 54) (ps := ["makers", "bits"]) X G (d.fact 27 (f := .glo "_law_kin") rfl) F27 fun _ _ _ _ _ _ us hl => match us, hl with | [_, _], _ => rfl
  have D__law_word := df (x := "_law_word") (st := topS 55) (ps := ["e"]) X G (d.fact 28 (f := .glo "_law_word") rfl) F28 fun _ _ _ _ _ _ us hl => match us, hl with | [_], _ => rfl
  have D__law_told := df (x := "_law_told") (st := topS 56) (ps := ["work"]) X G (d.fact 29 (f := .glo "_law_told") rfl) F29 fun _ _ _ _ _ _ us hl => match us, hl with | [_], _ => rfl
  have D__law_answer := df (x := "_law_answer") (st := topS 57) (ps := ["draw", "many"]) X G (d.fact 30 (f := .glo "_law_answer") rfl) F30 fun _ _ _ _ _ _ us hl => match us, hl with | [_, _], _ => rfl
  have D__law_none := df (x := "_law_none") (st := topS 58) (ps := ["draw", "bits"]) X G (d.fact 31 (f := .glo "_law_none") rfl) F31 fun _ _ _ _ _ _ us hl => match us, hl with | [_, _], _ => rfl
  have x := c.more
  obtain ⟨x0, x⟩ := He.ba x
  obtain ⟨x1, x⟩ := He.ba x
  obtain ⟨x2, x⟩ := He.ba x
  obtain ⟨x3, x⟩ := He.ba x
  have x4 := x
  have t_a_Group___init___0 := tup0_of x3
  have t_a_Group___init___base := tup0_of x4
  have cls_Group : Cls K (He.ga K "Group") := He.cls_ok (d.fact 53 (f := .cls "Group") rfl)
  have glo_Group := He.glo_ok X G (d.fact 52 (f := .glo "Group") rfl)
  have no_Group__many := He.noat_ok (d.fact 54 (f := .noat "Group" "_many") rfl)
  have no_Group__makers := He.noat_ok (d.fact 55 (f := .noat "Group" "_makers") rfl)
  have no_Group__chain := He.noat_ok (d.fact 56 (f := .noat "Group" "_chain") rfl)
  have no_Group__places := He.noat_ok (d.fact 57 (f := .noat "Group" "_places") rfl)
  have mkr_Group := He.mkr_ok (d.fact 58 (f := .mkr "Group") rfl)
  obtain ⟨_, F_Group___init__⟩ := d.def_ 33 (d := dM_Group___init__) rfl
  obtain ⟨_, F_Group_size⟩ := d.def_ 34 (d := dM_Group_size) rfl
  have mth_Group_size := He.meth_ok (d.fact 59 (f := .meth "Group" "size") rfl)
  have R_Group_size : Fun K "size" "Group.size" m_Group_size _ _ := fun_of F_Group_size
  have b_Group_size := R_Group_size.binds (ps := ["self"]) fun _ _ _ _ _ _ us hl => match us, hl with | [_], _ => rfl
  obtain ⟨_, F_Group_has⟩ := d.def_ 35 (d := dM_Group_has) rfl
  have mth_Group_has := He.meth_ok (d.fact 60 (f := .meth "Group" "has") rfl)
  have R_Group_has : Fun K "has" "Group.has" m_Group_has _ _ := fun_of F_Group_has
  have b_Group_has := R_Group_has.binds (ps := ["self", "thing"]) fun _ _ _ _ _ _ us hl => match us, hl with | [_, _], _ => rfl
  obtain ⟨_, F_Group_truths⟩ := d.def_ 36 (d := dM_Group_truths) rfl
  have mth_Group_truths := He.meth_ok (d.fact 61 (f := .meth "Group" "truths") rfl)
  have R_Group_truths : Fun K "truths" "Group.truths" m_Group_truths _ _ := fun_of F_Group_truths
  have b_Group_truths := R_Group_truths.binds (ps := ["self"]) fun _ _ _ _ _ _ us hl => match us, hl with | [_], _ => rfl
  obtain ⟨_, F_Group_makers⟩ := d.def_ 37 (d := dM_Group_makers) rfl
  have mth_Group_makers := He.meth_ok (d.fact 62 (f := .meth "Group" "makers") rfl)
  have R_Group_makers : Fun K "makers" "Group.makers" m_Group_makers _ _ := fun_of F_Group_makers
  have b_Group_makers := R_Group_makers.binds (ps := ["self"]) fun _ _ _ _ _ _ us hl => match us, hl with | [_], _ => rfl
  have cls_Chain : Cls K (He.ga K "Chain") := He.cls_ok (d.fact 64 (f := .cls "Chain") rfl)
  have glo_Chain := He.glo_ok X G (d.fact 63 (f := .glo "Chain") rfl)
  have no_Chain_letters := He.noat_ok (d.fact 65 (f := .noat "Chain" "letters") rfl)
  have no_Chain_goals := He.noat_ok (d.fact 66 (f := .noat "Chain" "goals") rfl)
  have no_Chain_ways_back := He.noat_ok (d.fact 67 (f := .noat "Chain" "ways_back") rfl)
  have no_Chain__made_by := He.noat_ok (d.fact 68 (f := .noat "Chain" "_made_by") rfl)
  have mkr_Chain := He.mkr_ok (d.fact 69 (f := .mkr "Chain") rfl)
  obtain ⟨_, F_Chain___init__⟩ := d.def_ 38 (d := dM_Chain___init__) rfl
  have R_Chain___init__ : Fun K "__init__" "Chain.__init__" m_Chain___init__ _ _ := fun_of F_Chain___init__
  have b_Chain___init__ := R_Chain___init__.binds (ps := ["self", "letters"]) fun _ _ _ _ _ _ us hl => match us, hl with | [_, _], _ => rfl
  obtain ⟨_, F_Chain_size⟩ := d.def_ 39 (d := dM_Chain_size) rfl
  have mth_Chain_size := He.meth_ok (d.fact 70 (f := .meth "Chain" "size") rfl)
  have R_Chain_size : Fun K "size" "Chain.size" m_Chain_size _ _ := fun_of F_Chain_size
  have b_Chain_size := R_Chain_size.binds (ps := ["self"]) fun _ _ _ _ _ _ us hl => match us, hl with | [_], _ => rfl
  obtain ⟨_, F_Chain_holds⟩ := d.def_ 40 (d := dM_Chain_holds) rfl
  have mth_Chain_holds := He.meth_ok (d.fact 71 (f := .meth "Chain" "holds") rfl)
  have R_Chain_holds : Fun K "holds" "Chain.holds" m_Chain_holds _ _ := fun_of F_Chain_holds
  have b_Chain_holds := R_Chain_holds.binds (ps := ["self", "turn", "at"]) fun _ _ _ _ _ _ us hl => match us, hl with | [_, _, _], _ => rfl
  obtain ⟨_, F_Chain_put⟩ := d.def_ 41 (d := dM_Chain_put) rfl
  have mth_Chain_put := He.meth_ok (d.fact 72 (f := .meth "Chain" "put") rfl)
  have R_Chain_put : Fun K "put" "Chain.put" m_Chain_put _ _ := fun_of F_Chain_put
  have b_Chain_put := R_Chain_put.binds (ps := ["self", "turn", "at"]) fun _ _ _ _ _ _ us hl => match us, hl with | [_, _, _], _ => rfl
  have ER : Errs mg (csE K) := ⟨He.glo_ok X G (d.fact 36 (f := .glo "NoProblem") rfl), He.glo_ok X G (d.fact 37 (f := .glo "NoClause") rfl), He.glo_ok X G (d.fact 38 (f := .glo "TooMany") rfl), He.glo_ok X G (d.fact 39 (f := .glo "NoText") rfl), He.glo_ok X G (d.fact 40 (f := .glo "NoTurn") rfl), He.glo_ok X G (d.fact 41 (f := .glo "NoLetter") rfl), He.glo_ok X G (d.fact 42 (f := .glo "NotThere") rfl), He.glo_ok X G (d.fact 43 (f := .glo "NoStep") rfl), He.glo_ok X G (d.fact 44 (f := .glo "NoLog") rfl), He.glo_ok X G (d.fact 45 (f := .glo "NoWay") rfl), He.glo_ok X G (d.fact 46 (f := .glo "NoPart") rfl), He.glo_ok X G (d.fact 47 (f := .glo "NoAnswer") rfl), He.glo_ok X G (d.fact 48 (f := .glo "NoAsk") rfl), He.glo_ok X G (d.fact 49 (f := .glo "Twice") rfl), He.glo_ok X G (d.fact 50 (f := .glo "NoDeed") rfl), He.glo_ok X G (d.fact 51 (f := .glo "TurnError") rfl)⟩
  have EK_NoAnswer : ErrK K (csE K) (He.ga K "NoAnswer") 11 := errK_of (by decide) x0
  have OX_NoAnswer : OwnX K mg "NoAnswer" (He.ga K "NoAnswer") := ownX_of (He.glo_ok X G (d.fact 47 (f := .glo "NoAnswer") rfl)) x1
  have kt_NoAnswer : PySem.W.kitOne K (.ref (He.ga K "NoAnswer")) (.ref (csE K 15)) = some true := of_decide_eq_true x2
  have e := hfa.symm.trans (He.glo_ok X G (d.fact 32 (f := .glo "law") rfl))
  cases e
  have La : Fun K "law" "law" (topS 59) _ fd := fun_of F32
  have bl : Bl mg := ⟨He.free_ok X G (d.fact 73 (f := .free "max") rfl), He.free_ok X G (d.fact 74 (f := .free "min") rfl), He.free_ok X G (d.fact 75 (f := .free "len") rfl), He.free_ok X G (d.fact 76 (f := .free "range") rfl), He.free_ok X G (d.fact 77 (f := .free "type") rfl), He.free_ok X G (d.fact 78 (f := .free "int") rfl), He.free_ok X G (d.fact 79 (f := .free "list") rfl), He.free_ok X G (d.fact 80 (f := .free "tuple") rfl), He.free_ok X G (d.fact 81 (f := .free "dict") rfl), He.free_ok X G (d.fact 82 (f := .free "bool") rfl), He.free_ok X G (d.fact 83 (f := .free "abs") rfl), He.free_ok X G (d.fact 84 (f := .free "sorted") rfl), He.free_ok X G (d.fact 85 (f := .free "enumerate") rfl), He.free_ok X G (d.fact 86 (f := .free "isinstance") rfl), He.free_ok X G (d.fact 87 (f := .free "repr") rfl), He.free_ok X G (d.fact 88 (f := .free "str") rfl), He.free_ok X G (d.fact 89 (f := .free "all") rfl), He.free_ok X G (d.fact 90 (f := .free "any") rfl), He.free_ok X G (d.fact 91 (f := .free "zip") rfl), He.free_ok X G (d.fact 92 (f := .free "reversed") rfl), He.free_ok X G (d.fact 93 (f := .free "sum") rfl), He.free_ok X G (d.fact 94 (f := .free "set") rfl), He.free_ok X G (d.fact 95 (f := .free "ValueError") rfl)⟩
  have g_MOST := He.int_ok X G (d.fact 33 (f := .int "MOST" 400) rfl)
  have g_MOST_TRUTHS := He.int_ok X G (d.fact 34 (f := .int "MOST_TRUTHS" 12) rfl)
  have g__MOST_MAKERS := He.int_ok X G (d.fact 35 (f := .int "_MOST_MAKERS" 60) rfl)
  refine ⟨fd, fun s v => FunD.bindsA (x := "law") (qual := "law") (params := defArgs (topS 59)) (body := defBody (topS 59)) (scope := defScope (topS 59)) (ps := ["script"]) F32 (fun _ _ _ _ _ _ us hl => match us, hl with | [_], _ => rfl) s [v] rfl, fun base _ _ TB => ?_⟩
  have FT_ := funT_of (st := topS 59) F32
  have GOn : FnOk P w K mg base CX0 1 _ _ ["turn", "table"] (spOn K) := ok_on D_led_on.F bl
  have GTb : FnOk P w K mg base CX0 1 _ _ ["turn"] (spTab K) := ok_tab D_table_of.F bl
  have GLb : FnOk P w K mg base CX0 1 _ _ ["turn"] (spLb K) := ok_lb D_led_back.F bl
  have GGo : FnOk P w K mg base CX0 1 _ _ ["turn", "letter"] (spGoes K) := ok_goes D_goes.F bl
  have GT := ok_turn (P := P) (w := w) (base := base) D_is_turn.F bl D_is_number D_is_letter D__is_many g_MOST
  have GX : FnOk P w K mg base CX0 2 _ _ ["draw", "size"] (spNext K) := ok_next D__law_next.F bl D__law_mixed
  have GLt := ok_ltu (P := P) (w := w) (base := base) D__law_turn.F bl D__law_mixed D__law_next
  have GHd := ok_hd (P := P) (w := w) (base := base) R_Chain_holds bl cls_Chain no_Chain_letters no_Chain_goals no_Chain_ways_back D_goes GGo D_led_on GOn
  have GPu := ok_puN (P := P) (w := w) (base := base) R_Chain_put bl cls_Chain no_Chain_letters no_Chain_goals no_Chain_ways_back no_Chain__made_by D_goes GGo D_led_on GOn D_table_of GTb D_led_back GLb mth_Chain_holds b_Chain_holds GHd mth_Chain_put b_Chain_put 13
  have GCI := ok_ci (P := P) (w := w) (base := base) R_Chain___init__ bl cls_Chain no_Chain_letters no_Chain_goals no_Chain_ways_back no_Chain__made_by D_still D_table_of
  have CP : ChProg P w K mg base _ _ _ _ _ _ _ := ⟨cls_Chain, no_Chain_letters, no_Chain_goals, no_Chain_ways_back, no_Chain__made_by, glo_Chain, mkr_Chain, b_Chain___init__, GCI, mth_Chain_put, b_Chain_put, GPu, mth_Chain_holds, b_Chain_holds, GHd⟩
  have GCo := ok_co D__chain_of.F bl CP
  have GUm := ok_um (P := P) (w := w) (base := base) D__unlike_makers.F bl g__MOST_MAKERS D_is_list D_is_turn GT D_still
  have GBl := ok_bl (P := P) (w := w) (base := base) D__base_letters.F bl D_is_list D_is_number D_is_letter
  have GGI := ok_gi F_Group___init__ bl cls_Group no_Group__many no_Group__makers no_Group__chain no_Group__places cls_Chain no_Chain_goals g_MOST_TRUTHS D_is_number D__unlike_makers GUm D__chain_of GCo D__base_letters GBl
  have GP : GrProg P w K mg base _ _ _ _ _ _ := ⟨glo_Group, mkr_Group, GGI, t_a_Group___init___0, t_a_Group___init___base, F_Group___init__.binds (ps := psGI) 2 0 (by simp [He.DefD.dvs, dM_Group___init__]) rfl (fun _ _ _ _ _ _ _ us its ks h1 h2 h3 => match us, its, ks, h1, h2, h3 with | [_, _], [_], [_], _, _, _ => ⟨_, rfl, _, _, _, _, _, _, rfl, rfl, rfl⟩) (by simp [He.DefD.kws, dM_Group___init__]), F_Group___init__.binds (ps := psGI) 3 1 (by simp [He.DefD.dvs, dM_Group___init__]) rfl (fun _ _ _ _ _ _ _ us its ks h1 h2 h3 => match us, its, ks, h1, h2, h3 with | [_, _, _], [_], [_], _, _, _ => ⟨_, rfl, _, _, _, _, _, _, rfl, rfl, rfl⟩) (by simp [He.DefD.kws, dM_Group___init__])⟩
  have kb := F_Group___init__.kbinds (ps := psGI) 3 ["base"] [] gKb (by simp [He.DefD.dvs, dM_Group___init__]) (by simp [He.DefD.kws, dM_Group___init__]) (fun q hq => nomatch hq) (fun h1 _ _ h4 => h1.append h4) (fun _ _ _ _ _ _ _ us its mv ws h1 h2 h3 h4 => match us, its, mv, ws, h1, h2, h3, h4 with | [_, _, _], [_], [], [_], _, _, _, _ => ⟨_, rfl, rfl⟩)
  have GCz := ok_cz (mg := mg) (P := P) (w := w) (base := base) R_Chain_size bl cls_Chain no_Chain_goals
  have GGs := ok_gs (mg := mg) (P := P) (w := w) (base := base) R_Group_size bl cls_Group no_Group__chain cls_Chain mth_Chain_size b_Chain_size GCz
  have GHs := ok_gh (mg := mg) (P := P) (w := w) (base := base) (C := He.ga K "Group") (CC := He.ga K "Chain") R_Group_has cls_Group no_Group__many no_Group__chain cls_Chain D_is_turn GT mth_Chain_holds b_Chain_holds GHd
  have GGt := ok_gt (mg := mg) (P := P) (w := w) (base := base) (CC := He.ga K "Chain") R_Group_truths cls_Group no_Group__many
  have GGm := ok_gm (mg := mg) (P := P) (w := w) (base := base) (CC := He.ga K "Chain") R_Group_makers bl cls_Group no_Group__makers
  have M_size : MB P w K mg base (He.ga K "Group") "size" 2 ["self"] _ _ _ := ⟨mth_Group_size, b_Group_size, GGs⟩
  have M_truths : MB P w K mg base (He.ga K "Group") "truths" 1 ["self"] _ _ _ := ⟨mth_Group_truths, b_Group_truths, GGt⟩
  have M_makers : MB P w K mg base (He.ga K "Group") "makers" 1 ["self"] _ _ _ := ⟨mth_Group_makers, b_Group_makers, GGm⟩
  have M_has : MB P w K mg base (He.ga K "Group") "has" 4 ["self", "thing"] _ _ _ := ⟨mth_Group_has, b_Group_has, GHs⟩
  have GLp := ok_lp (P := P) (w := w) (base := base) D__law_products.F bl D__law_joined D__law_goes
  have GIs := ok_isWTZ (P := P) (w := w) (base := base) D_is_worths.F bl D_is_number
  have GWt := ok_wtZ (P := P) (w := w) (base := base) D_worth_table.F bl
  have GSt := ok_still (P := P) (w := w) (base := base) D_still.F bl
  have GWf := ok_wf (P := P) (w := w) (base := base) D__ways_from.F bl cls_Group D_is_worths GIs D_table_of GTb D_led_back GLb D_still GSt D_worth_table GWt D_led_on GOn M_truths M_makers
  have GLst := ok_le (P := P) (w := w) (base := base) D_least.F bl cls_Group D__ways_from GWf
  have GWfR := ok_wfR (P := P) (w := w) (base := base) D__ways_from.F bl cls_Group D_is_worths GIs M_truths OX_NoAnswer
  have GLeR := ok_leR (P := P) (w := w) (base := base) D_least.F D__ways_from GWfR
  have kbL : KBn K _ ["group", "answer"] 0 ["answer", "group"] (fun us ws => gSw us ws) (fun vs zs => gSw vs zs) := kbn_of D_least.F (fun _ _ _ _ _ _ us ws h1 h2 => match us, ws, h1, h2 with | [], [_, _], _, _ => rfl) (fun r1 r2 => gSw_rel r1 r2)
  have GBs := ok_bs (P := P) (w := w) (base := base) D__law_based.F bl GP kb D__law_next GX
  have GLw := ok_lwZ (P := P) (w := w) (base := base) D__law_led_answer.F bl D__law_goes
  have GKi := ok_ki (P := P) (w := w) (base := base) D__law_kin.F bl D__law_led_answer GLw
  have GLa := ok_lan (P := P) (w := w) (base := base) D__law_answer.F bl D__law_next GX
  have GNo := ok_lno (P := P) (w := w) (base := base) D__law_none.F bl D__law_next GX
  have GWo := ok_lwz (P := P) (w := w) (base := base) D__law_word.F bl ER
  exact ok_law FT_ bl TB cls_Group D__law_next GX D__law_turn GLt D__law_based GBs D__law_products GLp D__law_answer GLa D_least GLst D__law_kin GKi D__law_led_answer GLw D__law_none GNo M_size M_has kbL GLeR D__law_told D__law_word GWo ER EK_NoAnswer kt_NoAnswer
end
end Toy

-- part: LZ
open PySem PySem.W PySem.Calls PyProof.Rows
theorem PySem.Challenge.cw_turnless_k55_least_of_a_kind_holds : PySem.Challenge.rw_turnless_k55_least_of_a_kind.Holds := by
  w_on; o_law
  refine HandSHeadRun.head_any (r := Toy.R) (q := view Toy.R.prog [59]) (H := Toy.hk) (ob := Toy.ob) (M := 8000) (loose := Toy.loose) (d := HandSHeadRun.topDef Toy.R.prog 59) (kwd := []) Toy.ob_eq
    (by kernel_rfl) (fun s => by kernel_rfl) Toy.run (by kernel_rfl) (by kernel_rfl) (by kernel_rfl) (by rfl) (by first | assumption | decide +kernel) (by decide +kernel) ⟨rfl, rfl, rfl, rfl, rfl, by decide +kernel⟩ ?hw ?hc
  case hw => w_witness2
  case hc =>
    refine Toy.walkG (l := PySem.Challenge.rw_turnless_k55_least_of_a_kind) (n := 63) (k := 21) (x := "script") rfl (by decide) (by kernel_rfl) ⟨rfl, by decide, by decide⟩ ?F
    intro w mg fa h Y G hmg0
    obtain ⟨K, KX, c⟩ := Y
    have hmg : mg ("law" : PySem.Str) = some (.ref fa) := by
      have e : (HandSHeadRun.topDef Toy.R.prog 59).name = ("law" : PySem.Str) := by kernel_rfl
      rw [← e]
      exact hmg0
    obtain ⟨fd, hb, hF⟩ := Toy.facts (P := (PySem.Challenge.rw_turnless_k55_least_of_a_kind).prog) (w := w) KX G hmg c
    have hm : (("law", none) : He.Defn) ∈ Toy.tfK := List.mem_singleton.mpr rfl
    refine ⟨K, fd, _, _, _, KX, c.empty _ hm, c.out _ hm, codeHd_of_K KX (c.hd _ hm), hb, fun H a ns hl hT hS => ⟨a, ns, rfl, hS, hl, fun p hp => ?_, fun _ => rfl⟩, hF⟩
    rw [List.mem_singleton.mp hp]
    exact LamX.TabS.nil hT

