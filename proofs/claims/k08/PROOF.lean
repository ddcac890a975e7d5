import PyProof.Rows.All
import HandS.Words
import HandS.Head0
import HandS.Head1
import HandS.Head2
import HandS.Head3
import HandS.HeadEnd
import HandS.HeadHook1
import HandS.HeadHook2
import HandS.HeadHook3
import HandS.HeadHook4
import HandS.HeadWalk
import HandS.EndTab
import HandS.ForMost
import HandS.Conv
import HandS.IsInst
import HandS.TupAny
import HandS.Deep
import HandS.Exc
import HandS.ExcOwn
import HandS.WordsExc
import HandS.AnyAll
import KE.SortData
import HandS.TupLe
import HandS.SetFor
import HandS.WideBits
import PyProof.Draws
import PyProof.EnumMake
import PyProof.WalksMore
import KE.GoesMore
import HandS.GenOver
import PyProof.ConsumeS
import HandS.Small
import HandS.TupLen
import HandS.Style
import HandS.List
import HandS.Iter
import HandS.DictComp
import PyProof.Rows.TupDisplay
import HandS.Star
import HandS.Zip
import KE.KDictWalk
import KE.DataMinMax
import HandS.SortKw
import KE.KTupSum
import KE.KDictPairs
import KE.KDictCopyH
import HandS.Sort
import KE.DataMinKey
import HandS.Rev
import KE.KEqDict
import HandS.WordsDict
import HandS.TupMul
import HandS.Strs
import HandS.TupSets
import HandS.SetBool
import HandS.Gcd
import HandS.RevRange
import PySem.Challenge.RW_meltlibrary_k08_known_libraries
set_option Elab.async false
set_option linter.all false
set_option maxRecDepth 100000
set_option maxHeartbeats 4000000
namespace MK
open PySem PySem.Spec PyProof.Rows L2
def tS (i : Nat) : Stmt := PySem.Challenge.pw_meltlibrary_k08_known_libraries.main.body.getD i (.Pass ⟨0, 0, 0, 0⟩)
def tM (i j : Nat) : Stmt := match tS i with
  | .ClassDef (body := b) .. => b.getD j (.Pass ⟨0, 0, 0, 0⟩)
  | s => s
namespace H
def dd (x : Str) (st : Stmt) : He.DefD := ⟨(x, none), x, x, defArgs st, defBody st, defScope st, [], []⟩
def ddM (c x q : Str) (st : Stmt) : He.DefD := ⟨(c, some x), x, q, defArgs st, defBody st, defScope st, [], []⟩
def fn0 : List He.DefD := [dd "is_within" (tS 14), dd "is_pair" (tS 15), dd "is_ascending" (tS 16), dd "are_tablets" (tS 17), dd "wrong_part" (tS 18), dd "check_library" (tS 19), dd "check_most" (tS 20), dd "check_game" (tS 21), dd "check_number" (tS 22), dd "check_counts" (tS 23), dd "check_tablet" (tS 24), dd "is_writing" (tS 25), dd "is_day" (tS 26), dd "check_days" (tS 27), dd "mask_of" (tS 29), dd "tablet_of" (tS 30), dd "masks_of" (tS 31), dd "sum_at" (tS 32), dd "all_sums" (tS 33), dd "rank_of" (tS 34), dd "keep_all" (tS 35), dd "without" (tS 36), dd "choices" (tS 37), dd "spanned" (tS 38), dd "rank" (tS 39), dd "keeps" (tS 40), dd "after" (tS 41), dd "lost_on" (tS 42), dd "state_of" (tS 44), dd "all_rests" (tS 45)]
def fn1 : List He.DefD := [dd "sums_of_few" (tS 46), dd "states_behind" (tS 47), ddM "Play" "__init__" "Play.__init__" (tM 48 0), ddM "Play" "is_lost" "Play.is_lost" (tM 48 2), ddM "Play" "is_losing" "Play.is_losing" (tM 48 3), ddM "Play" "newly_lost" "Play.newly_lost" (tM 48 4), dd "days_lost" (tS 49), dd "is_tame" (tS 51), dd "is_ring" (tS 52), dd "are_scheme" (tS 53), dd "every_tablet" (tS 54), dd "sorted_rows" (tS 55), dd "least_tablets" (tS 56), dd "tame" (tS 57), dd "rings" (tS 58), dd "is_scheme" (tS 59), dd "can_be" (tS 60), dd "schemes" (tS 61), dd "count_schemes" (tS 62), dd "fewest_tablets" (tS 63), dd "play_of" (tS 65), dd "best_rows" (tS 66), dd "soonest_loss" (tS 67), dd "lost_within" (tS 68), dd "kept_for_ever" (tS 69), dd "good_writings" (tS 70), dd "is_lost_within" (tS 71), dd "soonest_lost" (tS 72), dd "downfall" (tS 73), dd "is_rank_kept" (tS 74)]
def fn2 : List He.DefD := [dd "rank_kept" (tS 75), dd "kept_additions" (tS 76), dd "additions" (tS 77), dd "lowest" (tS 80), dd "a_day_longer" (tS 81), dd "best_chance" (tS 82), dd "idle_chance" (tS 83), dd "_law_taken" (tS 85), dd "law" (tS 86)]
def fn : List He.DefD := fn0 ++ fn1 ++ fn2
def fa0 : List He.Fa := [.glo "is_within", .glo "is_pair", .glo "is_ascending", .glo "are_tablets", .glo "wrong_part", .glo "check_library", .glo "check_most", .glo "check_game", .glo "check_number", .glo "check_counts", .glo "check_tablet", .glo "is_writing", .glo "is_day", .glo "check_days", .glo "mask_of", .glo "tablet_of", .glo "masks_of", .glo "sum_at", .glo "all_sums", .glo "rank_of", .glo "keep_all", .glo "without", .glo "choices", .glo "spanned", .glo "rank", .glo "keeps", .glo "after", .glo "lost_on", .glo "state_of", .glo "all_rests"]
def fa1 : List He.Fa := [.glo "sums_of_few", .glo "states_behind", .glo "days_lost", .glo "is_tame", .glo "is_ring", .glo "are_scheme", .glo "every_tablet", .glo "sorted_rows", .glo "least_tablets", .glo "tame", .glo "rings", .glo "is_scheme", .glo "can_be", .glo "schemes", .glo "count_schemes", .glo "fewest_tablets", .glo "play_of", .glo "best_rows", .glo "soonest_loss", .glo "lost_within", .glo "kept_for_ever", .glo "good_writings", .glo "is_lost_within", .glo "soonest_lost", .glo "downfall", .glo "is_rank_kept", .glo "rank_kept", .glo "kept_additions", .glo "additions", .glo "lowest"]
def fa2 : List He.Fa := [.glo "a_day_longer", .glo "best_chance", .glo "idle_chance", .glo "_law_taken", .glo "law", .cls "Play", .noat "Play" "rests", .noat "Play" "states", .meth "Play" "is_losing", .meth "Play" "is_lost", .meth "Play" "newly_lost", .mkr "Play", .glo "Play", .free "all", .free "any", .free "bool", .free "enumerate", .free "int", .free "isinstance", .free "len", .free "list", .free "max", .free "min", .free "range", .free "reversed", .free "sorted", .free "sum", .free "tuple", .free "zip", .int "MOST_CHANCE_DAYS" 30]
def fa3 : List He.Fa := [.int "MOST_DAYS" 60, .int "MOST_TABLETS" 6, .int "MOST_TEXTS" 3, .int "MOST_WRITTEN_FROM" 3]
def fa : List He.Fa := fa0 ++ fa1 ++ fa2 ++ fa3
def tf : List He.Defn := [("Play", some "is_losing"), ("Play", some "is_lost"), ("are_scheme", none), ("are_tablets", none), ("is_lost_within", none), ("is_ring", none), ("is_tame", none)]
def loose0 : List Str := ["gcd", "_wall", "LibraryError", "BadLibrary", "BadMost", "BadDays", "BadTablet", "BadNumber", "MOST_TEXTS", "MOST_TABLETS", "MOST_WRITTEN_FROM", "MOST_DAYS", "is_within", "is_pair", "is_ascending", "are_tablets", "wrong_part", "check_library", "check_most", "check_game", "check_number", "check_counts", "check_tablet", "is_writing", "is_day", "check_days", "mask_of", "tablet_of", "masks_of", "sum_at"]
def loose1 : List Str := ["all_sums", "rank_of", "keep_all", "without", "choices", "spanned", "rank", "keeps", "after", "lost_on", "state_of", "all_rests", "sums_of_few", "states_behind", "Play", "days_lost", "is_tame", "is_ring", "are_scheme", "every_tablet", "sorted_rows", "least_tablets", "tame", "rings", "is_scheme", "can_be", "schemes", "count_schemes", "fewest_tablets", "play_of"]
def loose2 : List Str := ["best_rows", "soonest_loss", "lost_within", "kept_for_ever", "good_writings", "is_lost_within", "soonest_lost", "downfall", "is_rank_kept", "rank_kept", "kept_additions", "additions", "MOST_CHANCE_DAYS", "lowest", "a_day_longer", "best_chance", "idle_chance", "_law_taken"]
def loose : List Str := loose0 ++ loose1 ++ loose2
abbrev R : PySem.W.OpenRow := PySem.W.OpenLaw.row PySem.Challenge.rw_meltlibrary_k08_known_libraries
abbrev hk : PySem.W.Hook := He.hookX 4 fa fn [] tf (fun K => He.eqO (PySem.W.nsIn K mainGlobals "gcd") (some (some (.builtin "math.gcd"))))
def ob (s : PySem.W.SharedT) : He.AlX := He.obsX 4 fa fn [] tf (fun K => He.eqO (PySem.W.nsIn K mainGlobals "gcd") (some (some (.builtin "math.gcd")))) (HandSHeadRun.getT s)
theorem ob_eq (s : PySem.W.SharedT) : ob s = hk.obs s.abs := He.obsX_eq (HandSHeadRun.getT_eq s)
set_option maxHeartbeats 0 in
theorem run_a (w : World) : (HandSHeadRun.wholeF (fun p => HandSHeadRun.stepQ (HandSHeadRun.denQ HandSHeadRun.tabQ) p w) HandSHeadRun.fenceQ 5000 R.prog).map (fun x => HandSHeadRun.looksF R.prog x.1.heap x.2.abs) = some true := by kernel_rfl
set_option maxHeartbeats 0 in
theorem run_b (w : World) : (HandSHeadRun.wholeF (fun p => HandSHeadRun.stepQ (HandSHeadRun.denQ HandSHeadRun.tabQ) p w) HandSHeadRun.fenceQ 5000 R.prog).map (fun x => HandSHeadRun.seenQ (PySem.W.view R.prog [86]) loose (importedModules R.prog.main.body) (fun s => PySem.W.xlAt (PySem.W.view R.prog [86]) [] s && PySem.W.recOk R.toRowW.records s) x.2.abs) = some (PySem.W.openGood (PySem.W.view R.prog [86]) loose) := by kernel_rfl
set_option maxHeartbeats 0 in
theorem run_c (w : World) : (HandSHeadRun.wholeF (fun p => HandSHeadRun.stepQ (HandSHeadRun.denQ HandSHeadRun.tabQ) p w) HandSHeadRun.fenceQ 5000 R.prog).map (fun x => (ob x.2).1) = some (hk.val w).1 := by kernel_rfl
set_option maxHeartbeats 0 in
theorem run_d (w : World) : (HandSHeadRun.wholeF (fun p => HandSHeadRun.stepQ (HandSHeadRun.denQ HandSHeadRun.tabQ) p w) HandSHeadRun.fenceQ 5000 R.prog).map (fun x => (ob x.2).2) = some (hk.val w).2 := by kernel_rfl
theorem trip {α β γ δ ε : Type} {o : Option α} {f1 : α → β} {f2 : α → γ} {f3 : α → δ × ε} {b : β} {c : γ} {d : δ × ε} (h1 : o.map f1 = some b) (h2 : o.map f2 = some c) (h3 : o.map (fun x => (f3 x).1) = some d.1) (h4 : o.map (fun x => (f3 x).2) = some d.2) :
    o.map (fun x => (f1 x, f2 x, f3 x)) = some (b, c, d) := by
  cases o with
  | none => cases h1
  | some x =>
    have e1 : f1 x = b := Option.some.inj h1
    have e2 : f2 x = c := Option.some.inj h2
    have e3 : (f3 x).1 = d.1 := Option.some.inj h3
    have e4 : (f3 x).2 = d.2 := Option.some.inj h4
    exact congrArg some (Prod.ext e1 (Prod.ext e2 (Prod.ext e3 e4)))
theorem run (w : World) : HandSHeadRun.RunEqI R (PySem.W.view R.prog [86]) hk ob 5000 loose w := trip (run_a w) (run_b w) (run_c w) (run_d w)
end H
end MK
/-! a merge sort that the kernel can run -/
namespace KS
def mrg {α : Type} (le : α → α → Bool) : List α → List α → List α
  | [], ys => ys
  | x :: xs, ys => go x xs ys (mrg le xs)
where go (x : α) (xs : List α) : List α → (List α → List α) → List α
  | [], _ => x :: xs
  | y :: ys, rec => if le x y then x :: rec (y :: ys) else y :: go x xs ys rec
theorem mrg_go {α : Type} (le : α → α → Bool) (x : α) (xs : List α) (ih : ∀ ys, mrg le xs ys = List.merge xs ys le) : ∀ ys, mrg.go le x xs ys (mrg le xs) = List.merge (x :: xs) ys le
  | [] => by rw [List.merge_right]; rfl
  | y :: ys => by
    show (if le x y then x :: mrg le xs (y :: ys) else y :: mrg.go le x xs ys (mrg le xs)) = _
    rw [List.cons_merge_cons, ih, mrg_go le x xs ih ys]
theorem mrg_eq {α : Type} (le : α → α → Bool) : ∀ xs ys : List α, mrg le xs ys = List.merge xs ys le
  | [], ys => by rw [List.nil_merge]; rfl
  | x :: xs, ys => mrg_go le x xs (mrg_eq le xs) ys
def msF {α : Type} (le : α → α → Bool) : Nat → List α → List α
  | 0, xs => xs
  | _ + 1, [] => []
  | _ + 1, [a] => [a]
  | n + 1, a :: b :: xs => mrg le (msF le n ((a :: b :: xs).take ((xs.length + 3) / 2))) (msF le n ((a :: b :: xs).drop ((xs.length + 3) / 2)))
theorem msF_eq {α : Type} (le : α → α → Bool) : ∀ (n : Nat) (xs : List α), xs.length ≤ n → msF le n xs = xs.mergeSort le
  | 0, [], _ => by rw [List.mergeSort_nil]; rfl
  | 0, _ :: _, h => by simp at h
  | _ + 1, [], _ => by rw [List.mergeSort_nil]; rfl
  | _ + 1, [a], _ => by rw [List.mergeSort_singleton]; rfl
  | n + 1, a :: b :: xs, h => by
    have h : xs.length + 2 ≤ n + 1 := by simpa using h
    rw [List.mergeSort]
    show mrg le (msF le n ((a :: b :: xs).take ((xs.length + 3) / 2))) (msF le n ((a :: b :: xs).drop ((xs.length + 3) / 2))) = _
    rw [mrg_eq, msF_eq le n _ (by simp only [List.length_take, List.length_cons]; omega), msF_eq le n _ (by simp only [List.length_drop, List.length_cons]; omega)]
    rw [List.MergeSort.Internal.splitInTwo_fst, List.MergeSort.Internal.splitInTwo_snd]
    rfl
end KS
/-! Values without addresses over the layer: data, cells that change, what stands for what. -/
namespace MV
open PySem PySem.Spec PyProof.Rows L2

/-- a value: data, a cell, a list that is not ours (read only) -/
inductive Val where
  | d (x : PyData) | ref (l : Nat) | fl (ds : List PyData)
/-- what may change -/
inductive Cell where
  | lst (xs : List Val) | dK (kvs : List (Key × Val)) | dT (kvs : List (List Key × Val)) | ins (cls : Str) (fs : List (Str × Val)) | lT (kvs : List (List Key × Val)) | lK (kvs : List (Key × Val)) | lL (xs : List Val) | dead
abbrev AH := List Cell
abbrev MM := List (Option Addr)

/-- an object of the module -/
def WrL (K : PySem.W.Frag) (a : Addr) (xs : List V) : Prop := ∃ (o : Obj) (its : Array Value) (n : Nat), K.lookup a = some o ∧ o.cls = .type "list" ∧ o.dict = none ∧ o.data = .seq its n ∧ its.size ≤ sizeLine ∧ Vals xs its.toList
/-- a list, a tuple that nobody changes -/
def FzL (K : PySem.W.Frag) (m : MM) (H : Hp) (a : Addr) (xs : List V) : Prop := (Rd H a (.lst xs) ∧ some a ∉ m) ∨ WrL K a xs
def FzT (K : PySem.W.Frag) (m : MM) (H : Hp) (a : Addr) (xs : List V) : Prop := H a = some (.tup xs) ∧ some a ∉ m
def TrL (m : MM) (H : Hp) (a : Addr) (xs : List V) : Prop := H a = some (.lst xs) ∧ some a ∉ m
theorem TrL.fz {K m H a xs} (h : TrL m H a xs) : FzL K m H a xs := .inl ⟨.inl h.1, h.2⟩
theorem FzL.sq {K m H a xs} (h : FzL K m H a xs) : SqL K H a xs := h.elim (fun h => .inl h.1) .inr
theorem FzT.sq {K m H a xs} (h : FzT K m H a xs) : SqT K H a xs := .inl (.inl h.1)

mutual
inductive Rp (K : PySem.W.Frag) (m : MM) (H : Hp) : PyData → V → Prop
  | non : Rp K m H .none .non
  | bl (b : Bool) : Rp K m H (.bool b) (.bl b)
  | int (i : Int) : Rp K m H (.int i) (.int i)
  | str (x : Str) : Rp K m H (.str x) (.str x)
  | lst {a : Addr} {xs : List V} {ds : List PyData} : TrL m H a xs → RpL K m H ds xs → Rp K m H (.list ds) (.ref a)
  | tup {a : Addr} {xs : List V} {ds : List PyData} : FzT K m H a xs → RpL K m H ds xs → Rp K m H (.tuple ds) (.ref a)
inductive RpL (K : PySem.W.Frag) (m : MM) (H : Hp) : List PyData → List V → Prop
  | nil : RpL K m H [] []
  | cons {d : PyData} {v : V} {ds : List PyData} {vs : List V} : Rp K m H d v → RpL K m H ds vs → RpL K m H (d :: ds) (v :: vs)
end

/-- what holds of the old holds of the new -/
structure Ext0 (m : MM) (H : Hp) (m' : MM) (H' : Hp) : Prop where
  len : m.length ≤ m'.length
  at' : ∀ (l : Nat) (a : Addr), l < m.length → m'[l]? = some (some a) → m[l]? = some (some a)
  keep : ∀ a o, H a = some o → (∀ ps, o ≠ .tbl ps) → (∀ φ, o ≠ .ext φ) → some a ∉ m → H' a = some o ∧ some a ∉ m'
/-- .. and what is locked stays as it is -/
structure ExtF (m : MM) (H : Hp) (m' : MM) (H' : Hp) : Prop extends Ext0 m H m' H' where
  frz : ∀ (a : Addr) (od : Obj) (u : HO), H a = some (.frz od u) → H' a = some (.frz od u)
/-- .. and so do sets -/
structure Ext (m : MM) (H : Hp) (m' : MM) (H' : Hp) : Prop extends ExtF m H m' H' where
  ext : ∀ (a : Addr) (φ : Heap → Prop), H a = some (.ext φ) → H' a = some (.ext φ)
instance {m H m' H'} : CoeOut (Ext m H m' H') (ExtF m H m' H') := ⟨Ext.toExtF⟩
theorem Ext.refl (m : MM) (H : Hp) : Ext m H m H := ⟨⟨⟨Nat.le_refl _, fun _ _ _ h => h, fun _ _ h _ _ n => ⟨h, n⟩⟩, fun _ _ _ e => e⟩, fun _ _ e => e⟩
theorem Ext0.trans {m H m1 H1 m2 H2} (a : Ext0 m H m1 H1) (b : Ext0 m1 H1 m2 H2) : Ext0 m H m2 H2 :=
  ⟨Nat.le_trans a.len b.len, fun l x h e => a.at' l x h (b.at' l x (Nat.lt_of_lt_of_le h a.len) e), fun x o e n n2 hm => (fun q => b.keep x o q.1 n n2 q.2) (a.keep x o e n n2 hm)⟩
theorem ExtF.trans {m H m1 H1 m2 H2} (a : ExtF m H m1 H1) (b : ExtF m1 H1 m2 H2) : ExtF m H m2 H2 := ⟨a.toExt0.trans b.toExt0, fun x od u e => b.frz x od u (a.frz x od u e)⟩
theorem Ext.trans {m H m1 H1 m2 H2} (a : Ext m H m1 H1) (b : Ext m1 H1 m2 H2) : Ext m H m2 H2 := ⟨a.toExtF.trans b.toExtF, fun x φ e => b.ext x φ (a.ext x φ e)⟩
theorem Ext0.rd {m H m' H' a u} (e : Ext0 m H m' H') (h : Rd H a u ∧ some a ∉ m) (hu : ∀ ps, u ≠ .tbl ps) (hv : ∀ φ, u ≠ .ext φ) : Rd H' a u ∧ some a ∉ m' := by
  obtain ⟨h | ⟨o, h⟩, n⟩ := h
  · exact (fun q => ⟨.inl q.1, q.2⟩) (e.keep a _ h hu hv n)
  · exact (fun q => ⟨.inr ⟨o, q.1⟩, q.2⟩) (e.keep a _ h (fun ps z => nomatch z) (fun ps z => nomatch z) n)
theorem TrL.mono0 {m H m' H' a xs} (e : Ext0 m H m' H') (h : TrL m H a xs) : TrL m' H' a xs := e.keep a _ h.1 (fun _ z => by cases z) (fun _ z => by cases z) h.2
theorem FzL.mono0 {K m H m' H' a xs} (e : Ext0 m H m' H') (h : FzL K m H a xs) : FzL K m' H' a xs := h.elim (fun h => .inl (e.rd h (fun _ z => nomatch z) fun _ z => nomatch z)) .inr
theorem FzT.mono0 {K m H m' H' a xs} (e : Ext0 m H m' H') (h : FzT K m H a xs) : FzT K m' H' a xs := e.keep a _ h.1 (fun _ z => by cases z) (fun _ z => by cases z) h.2
mutual
theorem Rp.mono0 {K m H m' H'} (e : Ext0 m H m' H') : ∀ {d v}, Rp K m H d v → Rp K m' H' d v
  | _, _, .non => .non
  | _, _, .bl b => .bl b
  | _, _, .int i => .int i
  | _, _, .str x => .str x
  | _, _, .lst h t => .lst (h.mono0 e) (RpL.mono0 e t)
  | _, _, .tup h t => .tup (h.mono0 e) (RpL.mono0 e t)
theorem RpL.mono0 {K m H m' H'} (e : Ext0 m H m' H') : ∀ {d v}, RpL K m H d v → RpL K m' H' d v
  | _, _, .nil => .nil
  | _, _, .cons h t => .cons (Rp.mono0 e h) (RpL.mono0 e t)
end
theorem Ext.rd {m H m' H' a u} (e : Ext m H m' H') (h : Rd H a u ∧ some a ∉ m) (hu : ∀ ps, u ≠ .tbl ps) (hv : ∀ φ, u ≠ .ext φ) : Rd H' a u ∧ some a ∉ m' := e.toExt0.rd h hu hv
theorem TrL.monoF {m H m' H' a xs} (e : ExtF m H m' H') (h : TrL m H a xs) : TrL m' H' a xs := h.mono0 e.toExt0
theorem TrL.mono {m H m' H' a xs} (e : Ext m H m' H') (h : TrL m H a xs) : TrL m' H' a xs := h.mono0 e.toExt0
theorem FzL.monoF {K m H m' H' a xs} (e : ExtF m H m' H') (h : FzL K m H a xs) : FzL K m' H' a xs := h.mono0 e.toExt0
theorem FzL.mono {K m H m' H' a xs} (e : Ext m H m' H') (h : FzL K m H a xs) : FzL K m' H' a xs := h.mono0 e.toExt0
theorem FzT.monoF {K m H m' H' a xs} (e : ExtF m H m' H') (h : FzT K m H a xs) : FzT K m' H' a xs := h.mono0 e.toExt0
theorem FzT.mono {K m H m' H' a xs} (e : Ext m H m' H') (h : FzT K m H a xs) : FzT K m' H' a xs := h.mono0 e.toExt0
theorem Rp.monoF {K m H m' H'} (e : ExtF m H m' H') {d v} (h : Rp K m H d v) : Rp K m' H' d v := h.mono0 e.toExt0
theorem Rp.mono {K m H m' H'} (e : Ext m H m' H') {d v} (h : Rp K m H d v) : Rp K m' H' d v := h.mono0 e.toExt0
theorem RpL.monoF {K m H m' H'} (e : ExtF m H m' H') {d v} (h : RpL K m H d v) : RpL K m' H' d v := h.mono0 e.toExt0
theorem RpL.mono {K m H m' H'} (e : Ext m H m' H') {d v} (h : RpL K m H d v) : RpL K m' H' d v := h.mono0 e.toExt0
mutual
theorem Rp.dp {K m H} : ∀ {d v}, Rp K m H d v → Dp K H v d
  | _, _, .non => .non
  | _, _, .bl b => .bl b
  | _, _, .int i => .int i
  | _, _, .str x => .str x
  | _, _, .lst h t => .lst (TrL.fz (K := K) h).sq (RpL.dp t)
  | _, _, .tup h t => .tup h.sq (RpL.dp t)
theorem RpL.dp {K m H} : ∀ {d v}, RpL K m H d v → DpAll K H v d
  | _, _, .nil => .nil
  | _, _, .cons h t => .cons (Rp.dp h) (RpL.dp t)
end
theorem RpL.length {K m H} : ∀ {d v}, RpL K m H d v → d.length = v.length
  | _, _, .nil => rfl
  | _, _, .cons _ t => congrArg (· + 1) (RpL.length t)
theorem RpL.get {K m H} : ∀ {d v} {i : Nat} {x : PyData}, RpL K m H d v → d[i]? = some x → ∃ y, v[i]? = some y ∧ Rp K m H x y
  | _, _, _, _, .nil, e => by simp at e
  | _, _, 0, _, .cons h _, e => by simp at e; subst e; exact ⟨_, rfl, h⟩
  | _, _, i + 1, x, .cons _ t, e => by
    obtain ⟨y, h1, h2⟩ := RpL.get (i := i) (x := x) t (by simpa using e)
    exact ⟨y, by simpa using h1, h2⟩
theorem RpL.getV {K m H} : ∀ {d v} {i : Nat} {y : V}, RpL K m H d v → v[i]? = some y → ∃ x, d[i]? = some x ∧ Rp K m H x y
  | _, _, _, _, .nil, e => by simp at e
  | _, _, 0, _, .cons h _, e => by simp at e; subst e; exact ⟨_, rfl, h⟩
  | _, _, i + 1, x, .cons _ t, e => by
    obtain ⟨y, h1, h2⟩ := RpL.getV (i := i) (y := x) t (by simpa using e)
    exact ⟨y, by simpa using h1, h2⟩
theorem RpL.append {K m H} : ∀ {d v d' v'}, RpL K m H d v → RpL K m H d' v' → RpL K m H (d ++ d') (v ++ v')
  | _, _, _, _, .nil, s => s
  | _, _, _, _, .cons h t, s => .cons h (RpL.append t s)
theorem RpL.take {K m H} : ∀ {d v} (n : Nat), RpL K m H d v → RpL K m H (d.take n) (v.take n)
  | _, _, 0, _ => .nil
  | _, _, _ + 1, .nil => .nil
  | _, _, n + 1, .cons r t => .cons r (RpL.take n t)
theorem RpL.drop {K m H} : ∀ {d v} (n : Nat), RpL K m H d v → RpL K m H (d.drop n) (v.drop n)
  | _, _, 0, r => r
  | _, _, _ + 1, .nil => .nil
  | _, _, n + 1, .cons r t => RpL.drop n t
theorem RpL.one {K m H d v} (h : Rp K m H d v) : RpL K m H [d] [v] := .cons h .nil

def RepV (K : PySem.W.Frag) (m : MM) (H : Hp) : Val → V → Prop
  | .d x, v => Rp K m H x v
  | .ref l, v => l < m.length ∧ ∀ a, m[l]? = some (some a) → v = .ref a
  | .fl ds, v => ∃ a vs, v = .ref a ∧ FzL K m H a vs ∧ RpL K m H ds vs
abbrev RepVs (K : PySem.W.Frag) (m : MM) (H : Hp) : List Val → List V → Prop := Paired (RepV K m H)
theorem RepV.mono0 {K m H m' H'} (e : Ext0 m H m' H') : ∀ {x v}, RepV K m H x v → RepV K m' H' x v
  | .d _, _, h => Rp.mono0 e h
  | .ref l, _, h => ⟨Nat.lt_of_lt_of_le h.1 e.len, fun a q => h.2 a (e.at' l a h.1 q)⟩
  | .fl _, _, ⟨a, vs, e1, h, t⟩ => ⟨a, vs, e1, h.mono0 e, t.mono0 e⟩
theorem RepV.monoF {K m H m' H'} (e : ExtF m H m' H') {x v} (h : RepV K m H x v) : RepV K m' H' x v := h.mono0 e.toExt0
theorem RepV.mono {K m H m' H'} (e : Ext m H m' H') {x v} (h : RepV K m H x v) : RepV K m' H' x v := h.mono0 e.toExt0
theorem RepVs.mono0 {K m H m' H' xs vs} (e : Ext0 m H m' H') (h : RepVs K m H xs vs) : RepVs K m' H' xs vs := Paired.mapP h fun _ _ q => q.mono0 e
theorem RepVs.monoF {K m H m' H' xs vs} (e : ExtF m H m' H') (h : RepVs K m H xs vs) : RepVs K m' H' xs vs := Paired.mapP h fun _ _ q => q.monoF e
theorem RepVs.mono {K m H m' H' xs vs} (e : Ext m H m' H') (h : RepVs K m H xs vs) : RepVs K m' H' xs vs := Paired.mapP h fun _ _ q => q.mono e
theorem RpL.vals {K m H} : ∀ {ds vs}, RpL K m H ds vs → RepVs K m H (ds.map .d) vs
  | _, _, .nil => .nil
  | _, _, .cons h t => .cons h (RpL.vals t)
theorem Paired.len {α β : Type} {F : α → β → Prop} : ∀ {l₁ : List α} {l₂ : List β}, Paired F l₁ l₂ → l₁.length = l₂.length
  | _, _, .nil => rfl
  | _, _, .cons _ t => congrArg (· + 1) (Paired.len t)
theorem Paired.app {α β : Type} {F : α → β → Prop} : ∀ {l₁ l₁' : List α} {l₂ l₂' : List β}, Paired F l₁ l₂ → Paired F l₁' l₂' → Paired F (l₁ ++ l₁') (l₂ ++ l₂')
  | _, _, _, _, .nil, s => s
  | _, _, _, _, .cons r t, s => .cons r (Paired.app t s)
theorem Paired.setP {α β : Type} {F : α → β → Prop} {x : α} {y : β} (r : F x y) : ∀ {l₁ : List α} {l₂ : List β} (i : Nat), Paired F l₁ l₂ → Paired F (l₁.set i x) (l₂.set i y)
  | _, _, _, .nil => .nil
  | _, _, 0, .cons _ t => .cons r t
  | _, _, i + 1, .cons q t => .cons q (Paired.setP r i t)
theorem Paired.at_ {α β : Type} {F : α → β → Prop} : ∀ {l₁ : List α} {l₂ : List β} {i : Nat} {x : α}, Paired F l₁ l₂ → l₁[i]? = some x → ∃ y, l₂[i]? = some y ∧ F x y
  | _, _, _, _, .nil, e => by simp at e
  | _, _, 0, _, .cons r _, e => by simp at e; subst e; exact ⟨_, rfl, r⟩
  | _, _, i + 1, x, .cons _ t, e => by
    obtain ⟨y, h1, h2⟩ := Paired.at_ (i := i) (x := x) t (by simpa using e)
    exact ⟨y, by simpa using h1, h2⟩
theorem Paired.at2 {α β : Type} {F : α → β → Prop} : ∀ {l₁ : List α} {l₂ : List β} {i : Nat} {y : β}, Paired F l₁ l₂ → l₂[i]? = some y → ∃ x, l₁[i]? = some x ∧ F x y
  | _, _, _, _, .nil, e => by simp at e
  | _, _, 0, _, .cons r _, e => by simp at e; subst e; exact ⟨_, rfl, r⟩
  | _, _, i + 1, x, .cons _ t, e => by
    obtain ⟨y, h1, h2⟩ := Paired.at2 (i := i) (y := x) t (by simpa using e)
    exact ⟨y, by simpa using h1, h2⟩
theorem Paired.takeP {α β : Type} {F : α → β → Prop} : ∀ {l₁ : List α} {l₂ : List β} (n : Nat), Paired F l₁ l₂ → Paired F (l₁.take n) (l₂.take n)
  | _, _, 0, _ => .nil
  | _, _, _ + 1, .nil => .nil
  | _, _, n + 1, .cons r t => .cons r (Paired.takeP n t)

/-- a cell, and where it stands -/
inductive CellOk (K : PySem.W.Frag) (m : MM) (H : Hp) : Cell → Option Addr → Prop
  | lst {a xs vs} : H a = some (.lst vs) → RepVs K m H xs vs → CellOk K m H (.lst xs) (some a)
  | dK {a kvs ws} : H a = some (.dK ws) → Paired (fun (p : Key × Val) (q : Key × V) => p.1 = q.1 ∧ RepV K m H p.2 q.2) kvs ws → CellOk K m H (.dK kvs) (some a)
  | dT {a kvs ws} : H a = some (.dT ws) → Paired (fun (p : List Key × Val) (q : List Key × V) => p.1 = q.1 ∧ RepV K m H p.2 q.2) kvs ws → CellOk K m H (.dT kvs) (some a)
  | ins {a dx cls fs gs} : H a = some (.ins (He.ga K cls) dx gs) → Paired (fun (p : Str × Val) (q : Str × V) => p.1 = q.1 ∧ RepV K m H p.2 q.2) fs gs → CellOk K m H (.ins cls fs) (some a)
  | lT {a od kvs ws} : H a = some (.frz od (.dT ws)) → Paired (fun (p : List Key × Val) (q : List Key × V) => p.1 = q.1 ∧ RepV K m H p.2 q.2) kvs ws → CellOk K m H (.lT kvs) (some a)
  | lK {a od kvs ws} : H a = some (.frz od (.dK ws)) → Paired (fun (p : Key × Val) (q : Key × V) => p.1 = q.1 ∧ RepV K m H p.2 q.2) kvs ws → CellOk K m H (.lK kvs) (some a)
  | lL {a od xs vs} : H a = some (.frz od (.lst vs)) → RepVs K m H xs vs → CellOk K m H (.lL xs) (some a)
  | dead : CellOk K m H .dead none

/-- what a text has besides: tables of code objects; how an exception of the text lies -/
structure Tx where
  tabs : List Addr
  exn : MM → Hp → Str → List Val → Value → Option Addr → Prop

structure Sim (K : PySem.W.Frag) (T : Tx) (m : MM) (h : AH) (H : Hp) : Prop where
  cell : Paired (fun c x => CellOk K m H c x) h m
  inj : ∀ (l l' : Nat) (a : Addr), m[l]? = some (some a) → m[l']? = some (some a) → l = l'
  tab : ∀ P ∈ T.tabs, GxR.TabG H P
theorem Sim.len {K T m h H} (S : Sim K T m h H) : h.length = m.length := Paired.len S.cell
theorem Sim.of {K T m h H} (S : Sim K T m h H) {l : Nat} {a : Addr} (e : m[l]? = some (some a)) : ∃ c, h[l]? = some c ∧ CellOk K m H c (some a) := Paired.at2 S.cell e
theorem CellOk.stands {K m H c a} (h : CellOk K m H c (some a)) : ∃ o, H a = some o ∧ ∀ ps, o ≠ .tbl ps := by
  cases h with
  | lst e _ => exact ⟨_, e, fun _ z => by cases z⟩
  | dK e _ => exact ⟨_, e, fun _ z => by cases z⟩
  | dT e _ => exact ⟨_, e, fun _ z => by cases z⟩
  | ins e _ => exact ⟨_, e, fun _ z => by cases z⟩
  | lT e _ => exact ⟨_, e, fun _ z => by cases z⟩
  | lK e _ => exact ⟨_, e, fun _ z => by cases z⟩
  | lL e _ => exact ⟨_, e, fun _ z => by cases z⟩
theorem CellOk.solid {K m H c a} (h : CellOk K m H c (some a)) : ∃ o, H a = some o ∧ (∀ ps, o ≠ .tbl ps) ∧ ∀ φ, o ≠ .ext φ := by
  cases h with
  | lst e _ => exact ⟨_, e, (fun _ z => nomatch z), (fun _ z => nomatch z)⟩
  | dK e _ => exact ⟨_, e, (fun _ z => nomatch z), (fun _ z => nomatch z)⟩
  | dT e _ => exact ⟨_, e, (fun _ z => nomatch z), (fun _ z => nomatch z)⟩
  | ins e _ => exact ⟨_, e, (fun _ z => nomatch z), (fun _ z => nomatch z)⟩
  | lT e _ => exact ⟨_, e, (fun _ z => nomatch z), (fun _ z => nomatch z)⟩
  | lK e _ => exact ⟨_, e, (fun _ z => nomatch z), (fun _ z => nomatch z)⟩
  | lL e _ => exact ⟨_, e, (fun _ z => nomatch z), (fun _ z => nomatch z)⟩
/-- a free address is no cell's -/
theorem Sim.free {K T m h H} (S : Sim K T m h H) {p : Addr} (hp : H p = none) : some p ∉ m := fun hm => by
  obtain ⟨l, e⟩ := List.mem_iff_getElem?.mp hm
  obtain ⟨c, _, ok⟩ := S.of e
  obtain ⟨o, e2, _⟩ := ok.stands
  rw [hp] at e2; cases e2
theorem Sim.ne {K T m h H} (S : Sim K T m h H) {p a : Addr} (hp : H p = none) (ha : some a ∈ m) : a ≠ p := fun e => S.free hp (e ▸ ha)
theorem CellOk.mono0 {K m H m' H' c x} (e : Ext0 m H m' H') (st : ∀ a, x = some a → H' a = H a) (h : CellOk K m H c x) : CellOk K m' H' c x := by
  cases h with
  | lst q r => exact .lst ((st _ rfl).trans q) (r.mono0 e)
  | dK q r => exact .dK ((st _ rfl).trans q) (Paired.mapP r fun _ _ z => ⟨z.1, z.2.mono0 e⟩)
  | dT q r => exact .dT ((st _ rfl).trans q) (Paired.mapP r fun _ _ z => ⟨z.1, z.2.mono0 e⟩)
  | ins q r => exact .ins ((st _ rfl).trans q) (Paired.mapP r fun _ _ z => ⟨z.1, z.2.mono0 e⟩)
  | lT q r => exact .lT ((st _ rfl).trans q) (Paired.mapP r fun _ _ z => ⟨z.1, z.2.mono0 e⟩)
  | lK q r => exact .lK ((st _ rfl).trans q) (Paired.mapP r fun _ _ z => ⟨z.1, z.2.mono0 e⟩)
  | lL q r => exact .lL ((st _ rfl).trans q) (r.mono0 e)
  | dead => exact .dead
theorem CellOk.monoF {K m H m' H' c x} (e : ExtF m H m' H') (st : ∀ a, x = some a → H' a = H a) (h : CellOk K m H c x) : CellOk K m' H' c x := h.mono0 e.toExt0 st
theorem CellOk.mono {K m H m' H' c x} (e : Ext m H m' H') (st : ∀ a, x = some a → H' a = H a) (h : CellOk K m H c x) : CellOk K m' H' c x := h.mono0 e.toExt0 st
/-- a new object that is no cell -/
theorem Ext.new {K T m h H} (S : Sim K T m h H) {p : Addr} {o : HO} (hp : H p = none) : Ext m H m (upd H p o) :=
  ⟨⟨⟨Nat.le_refl _, fun _ _ _ e => e, fun a u e _ _ n => ⟨by rw [upd_ne (ne_of_none e hp)]; exact e, n⟩⟩, fun a od u e => by rw [upd_ne (ne_of_none e hp)]; exact e⟩, fun a φ e => by rw [upd_ne (ne_of_none e hp)]; exact e⟩
theorem Paired.mem_map {α β : Type} {F G : α → β → Prop} : ∀ {l₁ : List α} {l₂ : List β}, Paired F l₁ l₂ → (∀ a b, b ∈ l₂ → F a b → G a b) → Paired G l₁ l₂
  | _, _, .nil, _ => .nil
  | _, _, .cons r t, f => .cons (f _ _ List.mem_cons_self r) (Paired.mem_map t fun a b hb => f a b (List.mem_cons_of_mem _ hb))
theorem Sim.new {K T m h H} (S : Sim K T m h H) {p : Addr} {o : HO} (hp : H p = none) : Sim K T m h (upd H p o) :=
  ⟨Paired.mem_map S.cell fun c x hx q => q.mono (Ext.new S hp) fun a ea => by rw [upd_ne (S.ne hp (ea ▸ hx))], S.inj, fun P hP => by
    obtain ⟨ps, e, t⟩ := S.tab P hP
    exact ⟨ps, by rw [upd_ne (ne_of_none e hp)]; exact e, t⟩⟩

/-- the slots -/
abbrev SA := List (Option Val)
def RepS (K : PySem.W.Frag) (m : MM) (H : Hp) (σa : SA) (σ : L2.St) : Prop := Paired (fun (x : Option Val) (v : Option V) => ∀ a, x = some a → ∃ w, v = some w ∧ RepV K m H a w) σa σ
theorem RepS.monoF {K m H m' H' σa σ} (e : ExtF m H m' H') (h : RepS K m H σa σ) : RepS K m' H' σa σ := Paired.mapP h fun _ _ q a ea => (fun ⟨w, e1, e2⟩ => ⟨w, e1, e2.monoF e⟩) (q a ea)
theorem RepS.mono {K m H m' H' σa σ} (e : Ext m H m' H') (h : RepS K m H σa σ) : RepS K m' H' σa σ := Paired.mapP h fun _ _ q a ea => (fun ⟨w, e1, e2⟩ => ⟨w, e1, e2.mono e⟩) (q a ea)
theorem RepS.get {K m H σa σ} (h : RepS K m H σa σ) {i : Nat} {x : Val} (e : σa[i]? = some (some x)) : ∃ v, σ[i]? = some (some v) ∧ RepV K m H x v := by
  obtain ⟨y, e1, q⟩ := Paired.at_ h e
  obtain ⟨w, e2, r⟩ := q x rfl
  exact ⟨w, by rw [e1, e2], r⟩
theorem RepS.set {K m H σa σ} (h : RepS K m H σa σ) (i : Nat) {x : Val} {v : V} (r : RepV K m H x v) : RepS K m H (σa.set i (some x)) (σ.set i (some v)) :=
  Paired.setP (F := fun (x : Option Val) (v : Option V) => ∀ a, x = some a → ∃ w, v = some w ∧ RepV K m H a w) (x := some x) (y := some v) (fun a ea => ⟨v, rfl, by cases ea; exact r⟩) i h

/-- what comes of code: a value, or an exception of the text -/
inductive Out (α : Type) where
  | ok (x : α) | exn (c : Str) (fs : List Val)
abbrev M (α : Type) := AH → Option (Out α × AH)
def ret {α : Type} (x : α) : M α := fun h => some (.ok x, h)
def bnd {α β : Type} (c : M α) (k : α → M β) : M β := fun h => match c h with
  | none => none
  | some (.ok x, h') => k x h'
  | some (.exn n fs, h') => some (.exn n fs, h')
/-- code that raises nothing -/
abbrev O (α : Type) := AH → Option (α × AH)
def lift {α : Type} (c : O α) : M α := fun h => match c h with
  | none => none
  | some (x, h') => some (.ok x, h')
theorem bnd_ok {α β : Type} {c : M α} {k : α → M β} {h h' : AH} {x : α} (e : c h = some (.ok x, h')) : bnd c k h = k x h' := by unfold bnd; rw [e]
theorem lift_ok {α : Type} {c : O α} {h h' : AH} {x : α} (e : c h = some (x, h')) : lift c h = some (.ok x, h') := by unfold lift; rw [e]

/-- behind code: P of what it gives; W of what it raises -/
def Aft (K : PySem.W.Frag) (T : Tx) (W : XK) (m : MM) (H : Hp) {α : Type} (o : Option (Out α × AH)) (P : MM → AH → Hp → α → Prop) : Prop :=
  ∃ r h', o = some (r, h') ∧ match r with
    | .ok x => ∀ m' H', Ext m H m' H' → Sim K T m' h' H' → P m' h' H' x
    | .exn n fs => ∀ m' H' cls d, Ext m H m' H' → Sim K T m' h' H' → T.exn m' H' n fs cls d → W cls d H'
section
variable {K : PySem.W.Frag} {T : Tx} {W : XK} {m m1 : MM} {h h1 : AH} {H H1 : Hp} {α β : Type}
theorem Aft.mono {o : Option (Out α × AH)} {P P' : MM → AH → Hp → α → Prop} (a : Aft K T W m H o P) (f : ∀ m' h' H' x, Ext m H m' H' → Sim K T m' h' H' → P m' h' H' x → P' m' h' H' x) : Aft K T W m H o P' := by
  obtain ⟨r, h', e, q⟩ := a
  refine ⟨r, h', e, ?_⟩
  cases r with
  | ok x => exact fun m' H' E S => f _ _ _ _ E S (q m' H' E S)
  | exn n fs => exact q
theorem Aft.lower {o : Option (Out α × AH)} {P : MM → AH → Hp → α → Prop} (E1 : Ext m H m1 H1) (a : Aft K T W m H o P) : Aft K T W m1 H1 o P := by
  obtain ⟨r, h', e, q⟩ := a
  refine ⟨r, h', e, ?_⟩
  cases r with
  | ok x => exact fun m' H' E S => q m' H' (E1.trans E) S
  | exn n fs => exact fun m' H' c d E S z => q m' H' c d (E1.trans E) S z
theorem Aft.bind {c : M α} {k : α → M β} {P : MM → AH → Hp → β → Prop} (a : Aft K T W m H (bnd c k h) P) : Aft K T W m H (c h) (fun m1 h1 H1 x => Aft K T W m1 H1 (k x h1) P) := by
  obtain ⟨r, h', e, q⟩ := a
  cases hc : c h with
  | none => unfold bnd at e; rw [hc] at e; cases e
  | some p =>
    obtain ⟨r1, h1⟩ := p
    cases r1 with
    | ok x =>
      refine ⟨.ok x, h1, rfl, fun m1 H1 E S => ?_⟩
      rw [bnd_ok hc] at e
      exact Aft.lower E ⟨r, h', e, q⟩
    | exn n fs =>
      unfold bnd at e
      rw [hc] at e
      cases e
      exact ⟨.exn n fs, h', rfl, q⟩
theorem Aft.lifted {c : O α} {P : MM → AH → Hp → α → Prop} (a : Aft K T W m H (lift c h) P) : ∃ x h', c h = some (x, h') ∧ ∀ m' H', Ext m H m' H' → Sim K T m' h' H' → P m' h' H' x := by
  obtain ⟨r, h', e, q⟩ := a
  unfold lift at e
  cases hc : c h with
  | none => rw [hc] at e; cases e
  | some p =>
    obtain ⟨x, h1⟩ := p
    rw [hc] at e
    cases e
    exact ⟨x, h', rfl, q⟩
theorem Aft.ret_ {x : α} {P : MM → AH → Hp → α → Prop} (S : Sim K T m h H) (a : Aft K T W m H (ret x h) P) : P m h H x := by
  obtain ⟨r, h', e, q⟩ := a
  cases e
  exact q m H (Ext.refl _ _) S
end
end MV
namespace MV
open PySem PySem.Spec PyProof.Rows L2

/-! ### judgements -/
abbrev CE := SA → M Val
abbrev CT := SA → M Bool
abbrev CA := SA → M (List Val)
def tAny (X : Cx) (T : Tx) (W : WX) {α β : Type} (R : MM → Hp → α → β → Prop) (c : SA → M α) : L2.St → Hp → (β → Hp → Prop) → Prop := fun σ H Q =>
  ∃ m h σa, Sim X.K T m h H ∧ RepS X.K m H σa σ ∧ Aft X.K T (fun cls d H => W cls d σ H) m H (c σa h) (fun m' _ H' x => ∀ v, R m' H' x v → Q v H')
abbrev tE (X : Cx) (T : Tx) (W : WX) (c : CE) : TE := tAny X T W (fun m H x v => RepV X.K m H x v) c
abbrev tT (X : Cx) (T : Tx) (W : WX) (c : CT) : TT := tAny X T W (fun _ _ (x v : Bool) => v = x) c
abbrev tA (X : Cx) (T : Tx) (W : WX) (c : CA) : TA := tAny X T W (fun m H x v => RepVs X.K m H x v) c
structure RE (X : Cx) (T : Tx) (W : WX) (e : Expr) (c : CE) : Prop where
  pe : PE X e (tE X T W c)
structure RT (X : Cx) (T : Tx) (W : WX) (e : Expr) (c : CT) : Prop where
  pt : PT X e (tT X T W c)
structure RW (X : Cx) (T : Tx) (W : WX) (e : Expr) (c : CT) : Prop where
  pw : PW X e (tT X T W c)
structure RA (X : Cx) (T : Tx) (W : WX) (es : List Expr) (c : CA) : Prop where
  pa : PA X es (tA X T W c)
/-- where code stands -/
structure Cok (X : Cx) (W : WX) (k : Nat) : Prop where
  calm : X.calm = true
  room : Room k X.A
  tk : Takes X W
  own : PassesOwn (model X.prog X.w) X.A X.env X.xe
  nd : X.N.Nodup
theorem Cok.mono {X W j k} (C : Cok X W k) (h : j ≤ k) : Cok X W j := ⟨C.calm, C.room.mono h, C.tk, C.own, C.nd⟩
theorem Cok.hu {X W k} (C : Cok X W k) : X.A.units + 64 < cLine := C.room.units
theorem Cok.hu1 {X W k} (C : Cok X W k) : X.A.units + 1 < cLine := hu_of C.room
theorem PE.imp {X : Cx} {e : Expr} {t t' : TE} (h : PE X e t) (f : ∀ σ H Q, t' σ H Q → t σ H Q) : PE X e t' := ⟨fun pins s σ H Q I q => h.run pins s σ H Q I (f _ _ _ q)⟩
theorem PT.imp {X : Cx} {e : Expr} {t t' : TT} (h : PT X e t) (f : ∀ σ H Q, t' σ H Q → t σ H Q) : PT X e t' := ⟨fun pins s σ H Q I q => h.run pins s σ H Q I (f _ _ _ q)⟩
theorem PW.imp {X : Cx} {e : Expr} {t t' : TT} (h : PW X e t) (f : ∀ σ H Q, t' σ H Q → t σ H Q) : PW X e t' := ⟨fun wh pins s σ H Q I q => h.run wh pins s σ H Q I (f _ _ _ q)⟩
theorem PA.imp {X : Cx} {e : List Expr} {t t' : TA} (h : PA X e t) (f : ∀ σ H Q, t' σ H Q → t σ H Q) : PA X e t' := ⟨fun pos pins s σ H Q I q => h.run pos pins s σ H Q I (f _ _ _ q)⟩

section
variable {X : Cx} {T : Tx} {W : WX} {k : Nat} {e a b c : Expr} {pos : Pos}

/-- a step behind a first one -/
theorem tAny_bind {α α' β β' : Type} {R : MM → Hp → α → β → Prop} {R' : MM → Hp → α' → β' → Prop} {c1 : SA → M α} {k1 : α → SA → M α'} {σ : L2.St} {H : Hp} {Q : β' → Hp → Prop} {Q1 : β → Hp → Prop}
    (h : tAny X T W R' (fun σa => bnd (c1 σa) fun x => k1 x σa) σ H Q)
    (f : ∀ m h1 H1 σa x v, Sim X.K T m h1 H1 → RepS X.K m H1 σa σ → R m H1 x v → Aft X.K T (fun cls d H => W cls d σ H) m H1 (k1 x σa h1) (fun m' _ H' x => ∀ v, R' m' H' x v → Q v H') → Q1 v H1) :
    tAny X T W R c1 σ H Q1 := by
  obtain ⟨m, h0, σa, S, RS, A⟩ := h
  exact ⟨m, h0, σa, S, RS, A.bind.mono fun m1 h1 H1 x E S1 q v r => f m1 h1 H1 σa x v S1 (RS.mono E) r q⟩

/-! ### names, constants -/
def cVar (i : Nat) : CE := fun σ => lift fun h => match σ[i]? with
  | some (some v) => some (v, h)
  | _ => none
theorem re_var (i : Nat) {x : Str} (hN : X.N[i]? = some x := by rfl) (hv : Vis X.env.scope x := by first | exact Or.inl rfl | exact Or.inr (Or.inl rfl) | exact Or.inr (Or.inr rfl)) (hd : (x == ("__debug__" : Str)) = false := by decide)
    (hcd : (x == ("__classdict__" : Str)) = false := by decide) : RE X T W (.Name x pos) (cVar i) :=
  ⟨PE.imp (pe_var hN hv hd hcd) fun σ H Q ⟨m, h0, σa, S, RS, A⟩ => by
    obtain ⟨x, h', e, q⟩ := Aft.lifted A
    cases he : σa[i]? with
    | none => rw [he] at e; cases e
    | some o =>
      cases o with
      | none => rw [he] at e; cases e
      | some v =>
        rw [he] at e; cases e
        obtain ⟨w, e1, r⟩ := RS.get he
        exact ⟨w, e1, q m H (Ext.refl _ _) S w r⟩⟩
def cK (x : PyData) : CE := fun _ => ret (.d x)
theorem re_tC {v : V} {x : PyData} (h : PE X e (tC v)) (r : ∀ m H, Rp X.K m H x v) : RE X T W e (cK x) :=
  ⟨PE.imp h fun σ H Q ⟨m, h0, σa, S, RS, A⟩ => Aft.ret_ S A v (r m H)⟩
theorem re_int {i j} : RE X T W (.Constant (.int i) j pos) (cK (.int i)) := re_tC pe_int fun _ _ => .int i
theorem re_bl {i j} : RE X T W (.Constant (.bool i) j pos) (cK (.bool i)) := re_tC pe_bl fun _ _ => .bl i
theorem re_str {i j} : RE X T W (.Constant (.str i) j pos) (cK (.str i)) := re_tC pe_str fun _ _ => .str i
theorem re_non {j} : RE X T W (.Constant .none j pos) (cK .none) := re_tC pe_non fun _ _ => .non
/-- a module's constant int -/
structure GInt (mg : Str → Option Value) (x : Str) (i : Int) : Prop where
  ex : ∃ t, mg x = some (.int i t)
theorem re_gint {x : Str} {i : Int} (hg : Gl X x) (hm : GInt X.mg x i) (hd : (x == ("__debug__" : Str)) = false := by decide) : RE X T W (.Name x pos) (cK (.int i)) := by
  obtain ⟨t, e⟩ := hm.ex
  exact re_tC (v := .int i) (pe_glob hg e ⟨t, rfl⟩ hd) fun _ _ => .int i

/-! ### what is read of a value -/
def allD : List Val → Option (List PyData)
  | [] => some []
  | .d x :: r => (allD r).map (x :: ·)
  | _ :: _ => none
def viewD : Val → AH → Option PyData
  | .d x, _ => some x
  | .fl ds, _ => some (.list ds)
  | .ref l, h => match h[l]? with
    | some (.lst xs) => (allD xs).map .list
    | _ => none
theorem allD_rep {K m H} : ∀ {xs vs ds}, RepVs K m H xs vs → allD xs = some ds → RpL K m H ds vs
  | _, _, _, .nil, e => by cases e; exact .nil
  | .d x :: r, _, ds, .cons h t, e => by
    unfold allD at e
    cases q : allD r with
    | none => rw [q] at e; cases e
    | some ys => rw [q] at e; cases e; exact .cons h (allD_rep t q)
  | .ref l :: r, _, ds, .cons h t, e => by unfold allD at e; cases e
  | .fl l :: r, _, ds, .cons h t, e => by unfold allD at e; cases e
section
variable {K : PySem.W.Frag} {m : MM} {h : AH} {H : Hp} {x : Val} {v : V}
theorem view_ref {l : Nat} {d : PyData} (S : Sim K T m h H) (r : RepV K m H (.ref l) v) (e : viewD (.ref l) h = some d) : ∃ a xs vs ds, v = .ref a ∧ m[l]? = some (some a) ∧ h[l]? = some (.lst xs) ∧ H a = some (.lst vs) ∧ RepVs K m H xs vs ∧ allD xs = some ds ∧ d = .list ds ∧ RpL K m H ds vs := by
  unfold viewD at e
  cases hl : h[l]? with
  | none => simp only [hl] at e; cases e
  | some c =>
    cases c with
    | lst xs =>
      simp only [hl] at e
      cases q : allD xs with
      | none => rw [q] at e; cases e
      | some ds =>
        rw [q] at e; cases e
        obtain ⟨y, e1, ok⟩ := Paired.at_ S.cell hl
        cases ok with
        | lst ha hr => exact ⟨_, xs, _, ds, r.2 _ e1, e1, rfl, ha, hr, q, rfl, allD_rep hr q⟩
    | dK _ => simp only [hl] at e; cases e
    | dT _ => simp only [hl] at e; cases e
    | ins _ _ => simp only [hl] at e; cases e
    | lT _ => simp only [hl] at e; cases e
    | lK _ => simp only [hl] at e; cases e
    | lL _ => simp only [hl] at e; cases e
    | dead => simp only [hl] at e; cases e
theorem view_list {ds : List PyData} (S : Sim K T m h H) (r : RepV K m H x v) (e : viewD x h = some (.list ds)) : ∃ a vs, v = .ref a ∧ SqL K H a vs ∧ RpL K m H ds vs := by
  cases x with
  | d y =>
    cases (show some y = some (PyData.list ds) from e)
    cases (show Rp K m H (.list ds) v from r) with
    | lst hz t => exact ⟨_, _, rfl, hz.fz.sq, t⟩
  | ref l =>
    obtain ⟨a, xs, vs, ds', rfl, _, _, ha, _, _, e2, t⟩ := view_ref S r e
    cases e2
    exact ⟨a, vs, rfl, .inl (.inl ha), t⟩
  | fl ds' =>
    cases (show some (PyData.list ds') = some (PyData.list ds) from e)
    obtain ⟨a, vs, rfl, hz, t⟩ := r
    exact ⟨a, vs, rfl, hz.sq, t⟩
theorem view_d {d : PyData} (S : Sim K T m h H) (r : RepV K m H x v) (e : viewD x h = some d) (hd : ∀ ds, d ≠ .list ds) : Rp K m H d v := by
  cases x with
  | d y =>
    cases (show some y = some d from e)
    exact r
  | ref l =>
    obtain ⟨a, xs, vs, ds', rfl, _, _, ha, _, _, e2, t⟩ := view_ref S r e
    exact absurd e2 (hd ds')
  | fl ds' => exact absurd (Option.some.inj e).symm (hd ds')
theorem view_tup {ds : List PyData} (S : Sim K T m h H) (r : RepV K m H x v) (e : viewD x h = some (.tuple ds)) : ∃ a vs, v = .ref a ∧ FzT K m H a vs ∧ RpL K m H ds vs := by
  cases view_d S r e (fun _ z => by cases z) with
  | tup hz t => exact ⟨_, _, rfl, hz, t⟩
theorem view_int {i : Int} (S : Sim K T m h H) (r : RepV K m H x v) (e : viewD x h = some (.int i)) : v = .int i := by
  cases view_d S r e (fun _ z => by cases z); rfl
theorem view_bl {i : Bool} (S : Sim K T m h H) (r : RepV K m H x v) (e : viewD x h = some (.bool i)) : v = .bl i := by
  cases view_d S r e (fun _ z => by cases z); rfl
theorem view_str {i : Str} (S : Sim K T m h H) (r : RepV K m H x v) (e : viewD x h = some (.str i)) : v = .str i := by
  cases view_d S r e (fun _ z => by cases z); rfl
theorem view_dp {d : PyData} (S : Sim K T m h H) (r : RepV K m H x v) (e : viewD x h = some d) : Dp K H v d := by
  cases x with
  | d y => cases (show some y = some d from e); exact Rp.dp r
  | ref l =>
    obtain ⟨a, xs, vs, ds', rfl, _, _, ha, _, _, rfl, t⟩ := view_ref S r e
    exact .lst (.inl (.inl ha)) (RpL.dp t)
  | fl ds' =>
    cases (show some (PyData.list ds') = some d from e)
    obtain ⟨a, vs, rfl, hz, t⟩ := r
    exact .lst hz.sq (RpL.dp t)
/-- a list of ours, data or a cell -/
def viewM : Val → AH → Option PyData
  | .fl _, _ => none
  | x, h => viewD x h
theorem viewM_D {d : PyData} (e : viewM x h = some d) : viewD x h = some d := by
  cases x with
  | fl _ => cases e
  | _ => exact e
theorem viewM_list {ds : List PyData} (S : Sim K T m h H) (r : RepV K m H x v) (e : viewM x h = some (.list ds)) : ∃ a vs, v = .ref a ∧ H a = some (.lst vs) ∧ RpL K m H ds vs := by
  cases x with
  | d y =>
    cases (show some y = some (PyData.list ds) from e)
    cases (show Rp K m H (.list ds) v from r) with
    | lst hz t => exact ⟨_, _, rfl, hz.1, t⟩
  | ref l =>
    obtain ⟨a, xs, vs, ds', rfl, _, _, ha, _, _, e2, t⟩ := view_ref S r e
    cases e2
    exact ⟨a, vs, rfl, ha, t⟩
  | fl ds' => cases e
end

/-! ### operators -/
abbrev G2 := Val → Val → O Val
def rP (K : PySem.W.Frag) (T : Tx) (g : G2) : R2 := fun vx vy H Q => ∃ m h x y z h', Sim K T m h H ∧ RepV K m H x vx ∧ RepV K m H y vy ∧ g x y h = some (z, h') ∧
  ∀ m' H', Ext m H m' H' → Sim K T m' h' H' → ∀ v, RepV K m' H' z v → Q v H'
/-- by what is read -/
def gD (f : PyData → PyData → Option PyData) : G2 := fun x y h => match viewD x h, viewD y h with
  | some a, some b => (f a b).map fun z => (.d z, h)
  | _, _ => none
theorem gD_some {f : PyData → PyData → Option PyData} {x y z : Val} {h h' : AH} (e : gD f x y h = some (z, h')) : ∃ a b c, viewD x h = some a ∧ viewD y h = some b ∧ f a b = some c ∧ z = .d c ∧ h' = h := by
  unfold gD at e
  cases p : viewD x h with
  | none => rw [p] at e; cases e
  | some a =>
    cases q : viewD y h with
    | none => rw [p, q] at e; cases e
    | some b =>
      rw [p, q] at e
      cases r : f a b with
      | none => simp only [r] at e; cases e
      | some c => simp only [r] at e; cases e; exact ⟨a, b, c, rfl, rfl, r, rfl, rfl⟩
theorem gD_ok {f : PyData → PyData → Option PyData} {x y : Val} {h : AH} {a b c : PyData} (p : viewD x h = some a) (q : viewD y h = some b) (r : f a b = some c) : gD f x y h = some (.d c, h) := by
  unfold gD; rw [p, q]; simp only [r]; rfl
def cOp (g : G2) (a b : CE) : CE := fun σ => bnd (a σ) fun x => bnd (b σ) fun y => lift (g x y)
variable {ca cb cc : CE} {g : G2}
theorem tE_op {σ : L2.St} {H : Hp} {Q : VK} (h : tE X T W (cOp g ca cb) σ H Q) : tOp (rP X.K T g) (tE X T W ca) (tE X T W cb) σ H Q := by
  refine tAny_bind h fun m h1 H1 σa x v S RS r A => ?_
  refine ⟨m, h1, σa, S, RS, A.bind.mono fun m2 h2 H2 y E2 S2 A2 w ry => ?_⟩
  obtain ⟨z, h3, e, q⟩ := A2.lifted
  exact ⟨m2, h2, x, y, z, h3, S2, r.mono E2, ry, e, fun m' H' E S v rv => q m' H' E S v rv⟩
theorem re_op {op : Operator} (ho : OpR X (binaryOp op) (rP X.K T g)) (ha : RE X T W a ca) (hb : RE X T W b cb) : RE X T W (.BinOp a op b pos) (cOp g ca cb) := ⟨PE.imp (pe_op ho ha.pe hb.pe) fun _ _ _ h => tE_op h⟩
theorem re_cmp {op : CmpOp} (ho : OpR X (compareOp op) (rP X.K T g)) (ha : RE X T W a ca) (hb : RE X T W b cb) (hm : behindInMarks op b = false := by first | exact nobehind _ (by decide) (by decide) | rfl) : RE X T W (.Compare a [op] [b] pos) (cOp g ca cb) := ⟨PE.imp (pe_cmpR ho ha.pe hb.pe hm) fun _ _ _ h => tE_op h⟩
/-- a value as a test -/
def asB (x : Val) : O Bool := fun h => match x with
  | .d (.bool b) => some (b, h)
  | _ => none
def cTest (c : CE) : CT := fun σ => bnd (c σ) fun x => lift (asB x)
theorem asB_some {x : Val} {h h' : AH} {b : Bool} (e : asB x h = some (b, h')) : x = .d (.bool b) ∧ h' = h := by
  unfold asB at e
  split at e
  · cases e; exact ⟨rfl, rfl⟩
  · cases e
theorem tT_test {ce : CE} {σ : L2.St} {H : Hp} {Q : Bool → Hp → Prop} (h : tT X T W (cTest ce) σ H Q) : tE X T W ce σ H (fun x H1 => ∃ k, x = .bl k ∧ Q k H1) := by
  refine tAny_bind h fun m h1 H1 σa x v S RS r A => ?_
  obtain ⟨z, h3, e, q⟩ := A.lifted
  obtain ⟨rfl, rfl⟩ := asB_some e
  cases r
  exact ⟨z, rfl, q m H1 (Ext.refl _ _) S z rfl⟩
theorem rt_cmp {op : CmpOp} (ho : OpR X (compareOp op) (rP X.K T g)) (ha : RE X T W a ca) (hb : RE X T W b cb) (hm : behindInMarks op b = false := by first | exact nobehind _ (by decide) (by decide) | rfl) : RT X T W (.Compare a [op] [b] pos) (cTest (cOp g ca cb)) :=
  ⟨PT.imp (pt_cmpR ho ha.pe hb.pe hm) fun _ _ _ h => tE_op (tT_test h)⟩
theorem rt_val {ce : CE} (ha : RE X T W e ce) (he : ∀ whole, isTrue e X.env whole = (do let v ← whole; standAt e.pos; holding [v] (truthy v)) := by intro _; rfl) : RT X T W e (cTest ce) := ⟨PT.imp (pt_val ha.pe he) fun _ _ _ h => tT_test h⟩
/-- a < b < c -/
def cChain (g g' : G2) (a b c : CE) : CE := fun σ => bnd (a σ) fun x => bnd (b σ) fun y => bnd (lift (g x y)) fun z => bnd (lift (asB z)) fun k => if k = true then bnd (c σ) fun w => lift (g' y w) else ret (.d (.bool false))
theorem tE_chain {g' : G2} {σ : L2.St} {H : Hp} {Q : VK} (h : tE X T W (cChain g g' ca cb cc) σ H Q) : tChain (rP X.K T g) (rP X.K T g') (tE X T W ca) (tE X T W cb) (tE X T W cc) σ H Q := by
  refine tAny_bind h fun m h1 H1 σa x v S RS r A => ?_
  refine ⟨m, h1, σa, S, RS, A.bind.mono fun m2 h2 H2 y E2 S2 A2 w ry => ?_⟩
  obtain ⟨z, h3, e, q⟩ := A2.bind.lifted
  refine ⟨m2, h2, x, y, z, h3, S2, r.mono E2, ry, e, fun m3 H3 E3 S3 v3 r3 => ?_⟩
  obtain ⟨kk, h4, e4, q4⟩ := (q m3 H3 E3 S3).bind.lifted
  obtain ⟨rfl, rfl⟩ := asB_some e4
  cases (show Rp X.K m3 H3 (.bool kk) v3 from r3)
  refine ⟨kk, rfl, ?_⟩
  have q5 := q4 m3 H3 (Ext.refl _ _) S3
  cases kk with
  | false =>
    rw [if_neg Bool.false_ne_true]
    exact Aft.ret_ S3 q5 _ (.bl false)
  | true =>
    rw [if_pos rfl]
    refine ⟨m3, h4, σa, S3, (RS.mono E2).mono E3, (Aft.bind q5).mono fun m6 h6 H6 y6 E6 S6 A6 w6 r6 => ?_⟩
    obtain ⟨z7, h7, e7, q7⟩ := Aft.lifted A6
    exact ⟨m6, h6, y, y6, z7, h7, S6, (ry.mono E3).mono E6, r6, e7, fun m' H' E S v rv => q7 m' H' E S v rv⟩
theorem re_chain {op op' : CmpOp} {g' : G2} (ho : OpR X (compareOp op) (rP X.K T g)) (ho' : OpR X (compareOp op') (rP X.K T g')) (ha : RE X T W a ca) (hb : RE X T W b cb) (hc : RE X T W c cc) (hm : lastMarks [op, op'] [b, c] = false := by with_unfolding_all rfl) :
    RE X T W (.Compare a [op, op'] [b, c] pos) (cChain g g' ca cb cc) := ⟨PE.imp (pe_chain ho ho' ha.pe hb.pe hc.pe hm) fun _ _ _ h => tE_chain h⟩
theorem rt_chain {op op' : CmpOp} {g' : G2} (ho : OpR X (compareOp op) (rP X.K T g)) (ho' : OpR X (compareOp op') (rP X.K T g')) (ha : RE X T W a ca) (hb : RE X T W b cb) (hc : RE X T W c cc) (hm : lastMarks [op, op'] [b, c] = false := by with_unfolding_all rfl) :
    RT X T W (.Compare a [op, op'] [b, c] pos) (cTest (cChain g g' ca cb cc)) := ⟨PT.imp (pt_chain ho ho' ha.pe hb.pe hc.pe hm) fun _ _ _ h => tE_chain (tT_test h)⟩
/-! ### and, or, not, if else -/
def cAnd (a b : CT) : CT := fun σ => bnd (a σ) fun k => if k = true then b σ else ret false
def cOr (a b : CT) : CT := fun σ => bnd (a σ) fun k => if k = true then ret true else b σ
def cNot (a : CT) : CT := fun σ => bnd (a σ) fun k => ret (!k)
variable {ta tb : CT} {rest : List Expr}
theorem rw_and1 (ha : RT X T W a ta) : RW X T W (.BoolOp .And [a] pos) ta := ⟨pw_and1 ha.pt⟩
theorem rw_or1 (ha : RT X T W a ta) : RW X T W (.BoolOp .Or [a] pos) ta := ⟨pw_or1 ha.pt⟩
theorem rw_and (ha : RT X T W a ta) (hb : RW X T W (.BoolOp .And (b :: rest) pos) tb) : RW X T W (.BoolOp .And (a :: b :: rest) pos) (cAnd ta tb) :=
  ⟨PW.imp (pw_and ha.pt hb.pw) fun σ H Q h => by
    refine tAny_bind h fun m h1 H1 σa x v S RS r A => ?_
    subst r
    cases v with
    | true => exact ⟨m, h1, σa, S, RS, A⟩
    | false => exact Aft.ret_ S A _ rfl⟩
theorem rw_or (ha : RT X T W a ta) (hb : RW X T W (.BoolOp .Or (b :: rest) pos) tb) : RW X T W (.BoolOp .Or (a :: b :: rest) pos) (cOr ta tb) :=
  ⟨PW.imp (pw_or ha.pt hb.pw) fun σ H Q h => by
    refine tAny_bind h fun m h1 H1 σa x v S RS r A => ?_
    subst r
    cases v with
    | false => exact ⟨m, h1, σa, S, RS, A⟩
    | true => exact Aft.ret_ S A _ rfl⟩
theorem RW.rt (h : RW X T W e ta) : RT X T W e ta := ⟨h.pw.pt⟩
theorem rt_not (ha : RT X T W a ta) : RT X T W (.UnaryOp .Not a pos) (cNot ta) :=
  ⟨PT.imp (pt_not ha.pt) fun σ H Q h => by
    refine tAny_bind h fun m h1 H1 σa x v S RS r A => ?_
    subst r
    exact Aft.ret_ S A _ rfl⟩
/-- .. as values -/
def cAndV (a b : CE) : CE := fun σ => bnd (cTest a σ) fun k => if k = true then b σ else ret (.d (.bool false))
def cOrV (a b : CE) : CE := fun σ => bnd (cTest a σ) fun k => if k = true then ret (.d (.bool true)) else b σ
def cNotV (a : CE) : CE := fun σ => bnd (cTest a σ) fun k => ret (.d (.bool (!k)))
theorem bnd_assoc {α β γ : Type} (c : M α) (f : α → M β) (g : β → M γ) : bnd (bnd c f) g = bnd c fun x => bnd (f x) g := by
  funext h
  unfold bnd
  cases c h with
  | none => rfl
  | some p =>
    obtain ⟨r, h'⟩ := p
    cases r <;> rfl
theorem tE_test {k1 : Bool → SA → M Val} {σ : L2.St} {H : Hp} {Q : VK} {Q1 : VK} (h : tE X T W (fun σa => bnd (cTest ca σa) fun x => k1 x σa) σ H Q)
    (f : ∀ m h1 H1 σa x, Sim X.K T m h1 H1 → RepS X.K m H1 σa σ → Aft X.K T (fun cls d H => W cls d σ H) m H1 (k1 x σa h1) (fun m' _ H' x => ∀ v, RepV X.K m' H' x v → Q v H') → Q1 (.bl x) H1) :
    tE X T W ca σ H Q1 := by
  unfold cTest at h
  simp only [bnd_assoc] at h
  refine tAny_bind (k1 := fun x σa => bnd (lift (asB x)) fun x => k1 x σa) h fun m h1 H1 σa x v S RS r A => ?_
  obtain ⟨z, h3, e, q⟩ := A.bind.lifted
  obtain ⟨rfl, rfl⟩ := asB_some e
  cases (show Rp X.K m H1 (.bool z) v from r)
  exact f m h3 H1 σa z S RS (q m H1 (Ext.refl _ _) S)
theorem re_one {op} (ha : RE X T W a ca) : RE X T W (.BoolOp op [a] pos) ca := ⟨pe_one ha.pe⟩
theorem re_and (ha : RE X T W a ca) (hb : RE X T W (.BoolOp .And (b :: rest) pos) cb) : RE X T W (.BoolOp .And (a :: b :: rest) pos) (cAndV ca cb) :=
  ⟨PE.imp (pe_and ha.pe hb.pe) fun σ H Q h => by
    refine tE_test h fun m h1 H1 σa x S RS A => ⟨x, rfl, ?_⟩
    cases x with
    | true => rw [if_pos rfl]; exact ⟨m, h1, σa, S, RS, A⟩
    | false => rw [if_neg Bool.false_ne_true]; exact Aft.ret_ S A _ (.bl _)⟩
theorem re_or (ha : RE X T W a ca) (hb : RE X T W (.BoolOp .Or (b :: rest) pos) cb) : RE X T W (.BoolOp .Or (a :: b :: rest) pos) (cOrV ca cb) :=
  ⟨PE.imp (pe_or ha.pe hb.pe) fun σ H Q h => by
    refine tE_test h fun m h1 H1 σa x S RS A => ⟨x, rfl, ?_⟩
    cases x with
    | false => rw [if_neg Bool.false_ne_true]; exact ⟨m, h1, σa, S, RS, A⟩
    | true => rw [if_pos rfl]; exact Aft.ret_ S A _ (.bl _)⟩
theorem re_not (ha : RE X T W a ca) : RE X T W (.UnaryOp .Not a pos) (cNotV ca) :=
  ⟨PE.imp (pe_not ha.pe) fun σ H Q h => by
    refine tE_test h fun m h1 H1 σa x S RS A => ⟨x, rfl, Aft.ret_ S A _ (.bl _)⟩⟩
def cIfE (t : CT) (a b : CE) : CE := fun σ => bnd (t σ) fun k => if k = true then a σ else b σ
theorem re_ifE {t : Expr} (ht : RT X T W t ta) (ha : RE X T W a ca) (hb : RE X T W b cb) : RE X T W (.IfExp t a b pos) (cIfE ta ca cb) :=
  ⟨PE.imp (pe_ifExp ht.pt ha.pe hb.pe) fun σ H Q h => by
    refine tAny_bind h fun m h1 H1 σa x v S RS r A => ?_
    subst r
    cases v with
    | true => rw [if_pos rfl]; exact ⟨m, h1, σa, S, RS, A⟩
    | false => rw [if_neg Bool.false_ne_true]; exact ⟨m, h1, σa, S, RS, A⟩⟩
/-! ### arguments -/
def cNil : CA := fun _ => ret []
def cCons (a : CE) (r : CA) : CA := fun σ => bnd (a σ) fun x => bnd (r σ) fun xs => ret (x :: xs)
variable {es : List Expr} {cr : CA}
theorem ra_nil : RA X T W [] cNil := ⟨PA.imp pa_nil fun σ H Q ⟨m, h0, σa, S, RS, A⟩ => Aft.ret_ S A [] .nil⟩
theorem ra_cons (ha : RE X T W e ca) (hr : RA X T W es cr) (hs : starEach (e :: es) X.env = (false, eval e X.env) :: starEach es X.env := by rfl) : RA X T W (e :: es) (cCons ca cr) :=
  ⟨PA.imp (pa_cons ha.pe hr.pa hs) fun σ H Q h => by
    refine tAny_bind h fun m h1 H1 σa x v S RS r A => ?_
    refine ⟨m, h1, σa, S, RS, A.bind.mono fun m2 h2 H2 xs E2 S2 A2 vs rs => ?_⟩
    exact Aft.ret_ S2 A2 (v :: vs) (.cons (r.mono E2) rs)⟩
/-- by the arguments -/
abbrev GA := List Val → O Val
def rA (K : PySem.W.Frag) (T : Tx) (g : GA) : List V → Hp → VK → Prop := fun vs H Q => ∃ m h xs z h', Sim K T m h H ∧ RepVs K m H xs vs ∧ g xs h = some (z, h') ∧
  ∀ m' H', Ext m H m' H' → Sim K T m' h' H' → ∀ v, RepV K m' H' z v → Q v H'
def cAp (g : GA) (a : CA) : CE := fun σ => bnd (a σ) fun xs => lift (g xs)
theorem tE_ap {ga : GA} {σ : L2.St} {H : Hp} {Q : VK} (h : tE X T W (cAp ga cr) σ H Q) : tA X T W cr σ H fun vs H1 => rA X.K T ga vs H1 Q := by
  refine tAny_bind h fun m h1 H1 σa xs vs S RS r A => ?_
  obtain ⟨z, h3, e, q⟩ := A.lifted
  exact ⟨m, h1, xs, z, h3, S, r, e, fun m' H' E S v rv => q m' H' E S v rv⟩
variable {x : Str} {p : Pos} {ga : GA} {id Ty : String}
theorem re_callB (hc : CallR X (.builtin id) (rA X.K T ga)) (hg : Gl X x) (hm : X.mg x = none) (hv : bootBuiltins x = some (.builtin id)) (ha : RA X T W (e :: es) cr) (hn : x ≠ "__name__" := by decide) (hdb : (x == ("__debug__" : Str)) = false := by decide)
    (he : starEach (e :: es) X.env = (false, eval e X.env) :: starEach es X.env := by rfl) (hpl : (backTo pos (starEach es X.env)).any (·.1) = false := by rfl) : RE X T W (.Call (.Name x p) (e :: es) [] pos) (cAp ga cr) :=
  ⟨PE.imp (pe_callB hc hg hm hv ha.pa hn hdb he hpl) fun _ _ _ h => tE_ap h⟩
theorem re_callTy (hc : CallR X (.type Ty) (rA X.K T ga)) (hg : Gl X x) (hm : X.mg x = none) (hv : bootBuiltins x = some (.type Ty)) (ha : RA X T W (e :: es) cr) (hn : x ≠ "__name__" := by decide) (hdb : (x == ("__debug__" : Str)) = false := by decide)
    (he : starEach (e :: es) X.env = (false, eval e X.env) :: starEach es X.env := by rfl) (hpl : (backTo pos (starEach es X.env)).any (·.1) = false := by rfl) : RE X T W (.Call (.Name x p) (e :: es) [] pos) (cAp ga cr) :=
  ⟨PE.imp (pe_callTy hc hg hm hv ha.pa hn hdb he hpl) fun _ _ _ h => tE_ap h⟩
/-! ### displays -/
def gTup : GA := fun xs h => match allD xs with
  | some ds => if ds.length ≤ sizeLine then some (.d (.tuple ds), h) else none
  | none => none
def gLst : GA := fun xs h => match allD xs with
  | some ds => if ds.length ≤ sizeLine then some (.d (.list ds), h) else none
  | none => none
theorem rp_newT {K : PySem.W.Frag} {m : MM} {h : AH} {H : Hp} {ds vs p} (S : Sim K T m h H) (hp : H p = none) (r : RpL K m H ds vs) : Rp K m (upd H p (.tup vs)) (.tuple ds) (.ref p) :=
  .tup ⟨upd_same, S.free hp⟩ (r.mono (Ext.new S hp))
theorem rp_newL {K : PySem.W.Frag} {m : MM} {h : AH} {H : Hp} {ds vs p} (S : Sim K T m h H) (hp : H p = none) (r : RpL K m H ds vs) : Rp K m (upd H p (.lst vs)) (.list ds) (.ref p) :=
  .lst ⟨upd_same, S.free hp⟩ (r.mono (Ext.new S hp))
theorem re_tup {x1} (ha : RA X T W es cr) : RE X T W (.Tuple es x1 pos) (cAp gTup cr) :=
  ⟨PE.imp (pe_tup ha.pa) fun σ H Q h => by
    obtain ⟨m, h0, σa, S, RS, A⟩ := tE_ap h
    refine ⟨m, h0, σa, S, RS, A.mono fun m1 h1 H1 xs E S1 q vs rv => ?_⟩
    obtain ⟨m, h2, xs, z, h', S, r, e, q⟩ := q vs rv
    unfold gTup at e
    cases hd : allD xs with
    | none => rw [hd] at e; cases e
    | some ds =>
      simp only [hd] at e
      have rl := allD_rep r hd
      by_cases hz : ds.length ≤ sizeLine
      · rw [if_pos hz] at e; cases e
        exact ⟨by rw [← rl.length]; exact hz, fun p hp => q m _ (Ext.new S hp) (S.new hp) _ (rp_newT S hp rl)⟩
      · rw [if_neg hz] at e; cases e⟩
theorem re_lst (ha : RA X T W es cr) : RE X T W (.List es pos) (cAp gLst cr) :=
  ⟨PE.imp (pe_lst ha.pa) fun σ H Q h => by
    obtain ⟨m, h0, σa, S, RS, A⟩ := tE_ap h
    refine ⟨m, h0, σa, S, RS, A.mono fun m1 h1 H1 xs E S1 q vs rv => ?_⟩
    obtain ⟨m, h2, xs, z, h', S, r, e, q⟩ := q vs rv
    unfold gLst at e
    cases hd : allD xs with
    | none => rw [hd] at e; cases e
    | some ds =>
      simp only [hd] at e
      have rl := allD_rep r hd
      by_cases hz : ds.length ≤ sizeLine
      · rw [if_pos hz] at e; cases e
        exact ⟨by rw [← rl.length]; exact hz, fun p hp => q m _ (Ext.new S hp) (S.new hp) _ (rp_newL S hp rl)⟩
      · rw [if_neg hz] at e; cases e⟩
end
end MV
namespace MV
open PySem PySem.Spec PyProof.Rows L2

inductive Fl where
  | nx (σ : SA) | rt (v : Val) | bk (σ : SA) | ct (σ : SA) | ex (σ : SA) (n : Str) (fs : List Val)
abbrev CS := SA → AH → Option (Fl × AH)
def AftS (K : PySem.W.Frag) (T : Tx) (W : WX) (m : MM) (H : Hp) (o : Option (Fl × AH)) (D : Ends) : Prop :=
  ∃ f h', o = some (f, h') ∧ match f with
    | .nx σa => ∀ m' H' σ, Ext m H m' H' → Sim K T m' h' H' → RepS K m' H' σa σ → D.nx σ H'
    | .rt x => ∀ m' H' v, Ext m H m' H' → Sim K T m' h' H' → RepV K m' H' x v → D.rt v H'
    | .bk σa => ∀ m' H' σ, Ext m H m' H' → Sim K T m' h' H' → RepS K m' H' σa σ → D.bk σ H'
    | .ct σa => ∀ m' H' σ, Ext m H m' H' → Sim K T m' h' H' → RepS K m' H' σa σ → D.ct σ H'
    | .ex σa n fs => ∀ m' H' σ cls d, Ext m H m' H' → Sim K T m' h' H' → RepS K m' H' σa σ → T.exn m' H' n fs cls d → W cls d σ H'
def tS (X : Cx) (T : Tx) (W : WX) (c : CS) : TS := fun D σ H => ∃ m h σa, Sim X.K T m h H ∧ RepS X.K m H σa σ ∧ AftS X.K T W m H (c σa h) D
structure RS (X : Cx) (T : Tx) (W : WX) (st : Stmt) (c : CS) : Prop where
  ps : PS X st (tS X T W c)
structure RSs (X : Cx) (T : Tx) (W : WX) (st : List Stmt) (c : CS) : Prop where
  pss : PSs X st (tS X T W c)
theorem PS.imp {X : Cx} {e : Stmt} {t t' : TS} (h : PS X e t) (f : ∀ D σ H, t' D σ H → t D σ H) : PS X e t' := ⟨fun pins s σ H D I q => h.run pins s σ H D I (f _ _ _ q)⟩
theorem PSs.imp {X : Cx} {e : List Stmt} {t t' : TS} (h : PSs X e t) (f : ∀ D σ H, t' D σ H → t D σ H) : PSs X e t' := ⟨fun pins s σ H D I q => h.run pins s σ H D I (f _ _ _ q)⟩
section
variable {K : PySem.W.Frag} {T : Tx} {W : WX} {m m1 : MM} {h : AH} {H H1 : Hp} {D D' : Ends}
theorem AftS.lower {o : Option (Fl × AH)} (E1 : Ext m H m1 H1) (a : AftS K T W m H o D) : AftS K T W m1 H1 o D := by
  obtain ⟨f, h', e, q⟩ := a
  refine ⟨f, h', e, ?_⟩
  cases f with
  | nx σ => exact fun m' H' s E => q m' H' s (E1.trans E)
  | bk σ => exact fun m' H' s E => q m' H' s (E1.trans E)
  | ct σ => exact fun m' H' s E => q m' H' s (E1.trans E)
  | rt σ => exact fun m' H' s E => q m' H' s (E1.trans E)
  | ex σ n fs => exact fun m' H' s c d E => q m' H' s c d (E1.trans E)
end
section
variable {X : Cx} {T : Tx} {W : WX} {k : Nat} {e a b c : Expr} {pos : Pos} {st : Stmt} {sts rest : List Stmt} {ce ca cb : CE} {ct : CT} {cs cs' : CS}
/-! ### blocks -/
def sNil : CS := fun σ h => some (.nx σ, h)
def sSeq (s t : CS) : CS := fun σ h => match s σ h with
  | some (.nx σ', h') => t σ' h'
  | o => o
theorem rss_nil : RSs X T W [] sNil := ⟨PSs.imp pss_nil fun D σ H ⟨m, h, σa, S, RS, f, h', e, q⟩ => by
  cases e
  exact q m H σ (Ext.refl _ _) S RS⟩
theorem sSeq_nx {s t : CS} {σ σ' : SA} {h h' : AH} (e : s σ h = some (.nx σ', h')) : sSeq s t σ h = t σ' h' := by unfold sSeq; rw [e]
theorem aft_seq {s t : CS} {m : MM} {h : AH} {H : Hp} {σa : SA} {D : Ends} (A : AftS X.K T W m H (sSeq s t σa h) D) : AftS X.K T W m H (s σa h) { D with nx := tS X T W t D } := by
  obtain ⟨f, h', e, q⟩ := A
  cases hs : s σa h with
  | none => unfold sSeq at e; rw [hs] at e; cases e
  | some p =>
    obtain ⟨f1, h1⟩ := p
    cases f1 with
    | nx σ1 =>
      rw [sSeq_nx hs] at e
      exact ⟨.nx σ1, h1, rfl, fun m' H' σ E S RS => ⟨m', h1, σ1, S, RS, AftS.lower E ⟨f, h', e, q⟩⟩⟩
    | rt v => unfold sSeq at e; rw [hs] at e; cases e; exact ⟨_, h', rfl, q⟩
    | bk v => unfold sSeq at e; rw [hs] at e; cases e; exact ⟨_, h', rfl, q⟩
    | ct v => unfold sSeq at e; rw [hs] at e; cases e; exact ⟨_, h', rfl, q⟩
    | ex v n fs => unfold sSeq at e; rw [hs] at e; cases e; exact ⟨_, h', rfl, q⟩
theorem rss_cons (h1 : RS X T W st cs) (h2 : RSs X T W rest cs') : RSs X T W (st :: rest) (sSeq cs cs') := ⟨PSs.imp (pss_cons h1.ps h2.pss) fun D σ H ⟨m, h, σa, S, RS, A⟩ => ⟨m, h, σa, S, RS, aft_seq A⟩⟩
theorem rss_one (h1 : RS X T W st cs) : RSs X T W [st] cs := ⟨pss_one h1.ps⟩
/-- a statement that is never come to -/
def sNever : CS := fun _ _ => none
theorem rs_never : RS X T W st sNever := ⟨PS.imp ps_never fun D σ H ⟨m, h, σa, S, RS, f, h', e, q⟩ => by cases e⟩
theorem rss_never : RSs X T W sts sNever := ⟨PSs.imp pss_never fun D σ H ⟨m, h, σa, S, RS, f, h', e, q⟩ => by cases e⟩
/-- an expression's value goes into a statement -/
def sBy (e : CE) (k : Val → CS) : CS := fun σ h => match e σ h with
  | some (.ok x, h') => k x σ h'
  | some (.exn n fs, h') => some (.ex σ n fs, h')
  | none => none
theorem sBy_ok {e : CE} {k : Val → CS} {σ : SA} {h h' : AH} {x : Val} (q : e σ h = some (.ok x, h')) : sBy e k σ h = k x σ h' := by unfold sBy; rw [q]
theorem by_tE {ks : Val → CS} {σ : L2.St} {H : Hp} {D : Ends} {Q : VK} (h : tS X T W (sBy ce ks) D σ H)
    (f : ∀ m h1 H1 σa x v, Sim X.K T m h1 H1 → RepS X.K m H1 σa σ → RepV X.K m H1 x v → AftS X.K T W m H1 (ks x σa h1) D → Q v H1) : tE X T W ce σ H Q := by
  obtain ⟨m, h0, σa, S, RS, fl, h', e, q⟩ := h
  refine ⟨m, h0, σa, S, RS, ?_⟩
  cases hc : ce σa h0 with
  | none => unfold sBy at e; rw [hc] at e; cases e
  | some p =>
    obtain ⟨r, h1⟩ := p
    cases r with
    | ok x =>
      rw [sBy_ok hc] at e
      exact ⟨.ok x, h1, rfl, fun m' H' E S' v r => f m' h1 H' σa x v S' (RS.mono E) r (AftS.lower E ⟨fl, h', e, q⟩)⟩
    | exn n fs =>
      unfold sBy at e; rw [hc] at e; cases e
      exact ⟨.exn n fs, h', rfl, fun m' H' cls d E S' z => q m' H' σ cls d E S' (RS.mono E) z⟩
def sByT (t : CT) (k : Bool → CS) : CS := fun σ h => match t σ h with
  | some (.ok x, h') => k x σ h'
  | some (.exn n fs, h') => some (.ex σ n fs, h')
  | none => none
theorem sByT_ok {e : CT} {k : Bool → CS} {σ : SA} {h h' : AH} {x : Bool} (q : e σ h = some (.ok x, h')) : sByT e k σ h = k x σ h' := by unfold sByT; rw [q]
theorem by_tT {ks : Bool → CS} {σ : L2.St} {H : Hp} {D : Ends} {Q : Bool → Hp → Prop} (h : tS X T W (sByT ct ks) D σ H)
    (f : ∀ m h1 H1 σa x, Sim X.K T m h1 H1 → RepS X.K m H1 σa σ → AftS X.K T W m H1 (ks x σa h1) D → Q x H1) : tT X T W ct σ H Q := by
  obtain ⟨m, h0, σa, S, RS, fl, h', e, q⟩ := h
  refine ⟨m, h0, σa, S, RS, ?_⟩
  cases hc : ct σa h0 with
  | none => unfold sByT at e; rw [hc] at e; cases e
  | some p =>
    obtain ⟨r, h1⟩ := p
    cases r with
    | ok x =>
      rw [sByT_ok hc] at e
      exact ⟨.ok x, h1, rfl, fun m' H' E S' v r => by subst r; exact f m' h1 H' σa v S' (RS.mono E) (AftS.lower E ⟨fl, h', e, q⟩)⟩
    | exn n fs =>
      unfold sByT at e; rw [hc] at e; cases e
      exact ⟨.exn n fs, h', rfl, fun m' H' cls d E S' z => q m' H' σ cls d E S' (RS.mono E) z⟩
/-! ### return, an expression alone, if -/
def sRet (e : CE) : CS := sBy e fun x _ h => some (.rt x, h)
theorem rs_ret (he : RE X T W e ce) : RS X T W (.Return (some e) pos) (sRet ce) := ⟨PS.imp (ps_ret he.pe) fun D σ H h => by
  refine by_tE h fun m h1 H1 σa x v S RS r A => ?_
  obtain ⟨f, h', e, q⟩ := A
  cases e
  exact q m H1 v (Ext.refl _ _) S r⟩
def sRetN : CS := fun _ h => some (.rt (.d .none), h)
theorem rs_retN : RS X T W (.Return none pos) sRetN := ⟨PS.imp ps_retN fun D σ H ⟨m, h, σa, S, RS, f, h', e, q⟩ => by
  cases e
  exact q m H .non (Ext.refl _ _) S .non⟩
def sDrop (e : CE) : CS := sBy e fun _ σ h => some (.nx σ, h)
theorem rs_expr (he : RE X T W e ce) (hs : swapsWith e none pos.line X.env = pure false := by rfl) : RS X T W (.Expr e pos) (sDrop ce) := ⟨PS.imp (ps_expr he.pe hs) fun D σ H h => by
  refine by_tE h fun m h1 H1 σa x v S RS r A => ?_
  obtain ⟨f, h', e, q⟩ := A
  cases e
  exact q m H1 σ (Ext.refl _ _) S RS⟩
def sIf (t : CT) (a b : CS) : CS := sByT t fun k => if k = true then a else b
theorem rs_if {body els : List Stmt} (ht : RT X T W e ct) (ha : RSs X T W body cs) (hb : RSs X T W els cs') : RS X T W (.If e body els pos) (sIf ct cs cs') := ⟨PS.imp (ps_if ht.pt ha.pss hb.pss) fun D σ H h => by
  refine by_tT h fun m h1 H1 σa x S RS A => ?_
  cases x with
  | true => rw [if_pos rfl]; exact ⟨m, h1, σa, S, RS, A⟩
  | false => rw [if_neg Bool.false_ne_true]; exact ⟨m, h1, σa, S, RS, A⟩⟩
/-! ### targets -/
abbrev CG := Val → AH → Option (List (Nat × Val))
def setAll {α : Type} : List (Option α) → List (Nat × α) → List (Option α)
  | σ, [] => σ
  | σ, (i, v) :: r => setAll (σ.set i (some v)) r
abbrev Ups (K : PySem.W.Frag) (m : MM) (H : Hp) : List (Nat × Val) → List (Nat × V) → Prop := Paired fun p q => p.1 = q.1 ∧ RepV K m H p.2 q.2
theorem RepS.setAll {K m H} : ∀ {ups ws σa σ}, RepS K m H σa σ → Ups K m H ups ws → RepS K m H (setAll σa ups) (setAll σ ws)
  | _, _, _, _, h, .nil => h
  | (i, x) :: r, (j, v) :: r', _, _, h, .cons q t => by
    obtain ⟨rfl, q⟩ := q
    have z := RepS.setAll (h.set i q) t
    exact z
theorem setAll_app {α : Type} : ∀ (u w : List (Nat × α)) (σ : List (Option α)), setAll σ (u ++ w) = setAll (setAll σ u) w
  | [], _, _ => rfl
  | (i, v) :: r, w, σ => setAll_app r w (σ.set i (some v))
def tG (K : PySem.W.Frag) (T : Tx) (g : CG) : TG := fun v σ H Q => ∃ m h x ups, Sim K T m h H ∧ RepV K m H x v ∧ g x h = some ups ∧ ∀ ws, Ups K m H ups ws → Q (setAll σ ws) H
structure RG (X : Cx) (T : Tx) (tg : Expr) (ns : List Nat) (g : CG) : Prop where
  pg : PG X tg (tG X.K T g)
  ns : ∀ x h ups, g x h = some ups → ups.map (·.1) = ns
def gN (i : Nat) : CG := fun x _ => some [(i, x)]
theorem PG.imp {X : Cx} {e : Expr} {t t' : TG} (h : PG X e t) (f : ∀ v σ H Q, t' v σ H Q → t v σ H Q) : PG X e t' := ⟨fun pins s σ H v u Q I r q => h.run pins s σ H v u Q I r (f _ _ _ _ q)⟩
theorem rg_name {i : Nat} {x : Str} (nd : X.N.Nodup) (hi : X.N[i]? = some x := by rfl) (hx : Loc X.env.scope x := by first | exact Or.inl rfl | exact Or.inr rfl) (hf : X.fn x = true ∨ X.env.scope.names.lookup x = some .local := by first | exact .inl rfl | exact .inr rfl) : RG X T (.Name x pos) [i] (gN i) :=
  ⟨PG.imp (pg_name nd hi hx hf) fun v σ H Q ⟨m, h, x, ups, S, r, e, q⟩ => by
    cases e
    exact q [(i, v)] (.cons ⟨rfl, r⟩ .nil), fun _ _ _ e => by cases e; rfl⟩
/-- targets of a tuple's items -/
def gAll : List CG → List Val → AH → Option (List (Nat × Val))
  | [], [], _ => some []
  | g :: gs, d :: ds, h => match g d h, gAll gs ds h with
    | some u, some w => some (u ++ w)
    | _, _ => none
  | _, _, _ => none
def gTupT (gs : List CG) : CG := fun x h => match viewD x h with
  | some (.tuple ds) => gAll gs (ds.map .d) h
  | _ => none
def tGs (K : PySem.W.Frag) (T : Tx) (gs : List CG) : TGs := fun vs σ H Q => ∃ m h ds ups, Sim K T m h H ∧ RepVs K m H ds vs ∧ gAll gs ds h = some ups ∧ ∀ ws, Ups K m H ups ws → Q (setAll σ ws) H
structure RGs (X : Cx) (T : Tx) (tg : List Expr) (ns : List Nat) (gs : List CG) : Prop where
  pgs : PGs X tg (tGs X.K T gs)
  ns : ∀ x h ups, gAll gs x h = some ups → ups.map (·.1) = ns
  len : ∀ x h ups, gAll gs x h = some ups → x.length = gs.length
theorem PGs.imp {X : Cx} {e : List Expr} {t t' : TGs} (h : PGs X e t) (f : ∀ v σ H Q, t' v σ H Q → t v σ H Q) : PGs X e t' := ⟨fun pins s σ H v u Q I r q => h.run pins s σ H v u Q I r (f _ _ _ _ q)⟩
theorem rgs_nil : RGs X T [] [] [] := by
  refine ⟨PGs.imp pgs_nil fun vs σ H Q ⟨m, h, ds, ups, S, r, e, q⟩ => ?_, fun x h ups e => ?_, fun x h ups e => ?_⟩
  · cases ds with
    | nil => cases r; cases e; exact ⟨rfl, q [] .nil⟩
    | cons _ _ => cases e
  · cases x with
    | nil => cases e; rfl
    | cons _ _ => cases e
  · cases x with
    | nil => rfl
    | cons _ _ => cases e
theorem gAll_cons {g : CG} {gs : List CG} {x : List Val} {h : AH} {ups : List (Nat × Val)} (e : gAll (g :: gs) x h = some ups) : ∃ d ds u w, x = d :: ds ∧ g d h = some u ∧ gAll gs ds h = some w ∧ ups = u ++ w := by
  cases x with
  | nil => cases e
  | cons d ds =>
    unfold gAll at e
    cases p : g d h with
    | none => rw [p] at e; cases e
    | some u =>
      cases q : gAll gs ds h with
      | none => rw [p, q] at e; cases e
      | some w => rw [p, q] at e; cases e; exact ⟨d, ds, u, w, rfl, p, q, rfl⟩
theorem rgs_cons {tg : Expr} {tgs : List Expr} {ns ns' : List Nat} {g : CG} {gs : List CG} (h1 : RG X T tg ns g) (h2 : RGs X T tgs ns' gs) (hs : (assignEach (tg :: tgs) X.env).map (·.2) = assign tg X.env :: (assignEach tgs X.env).map (·.2) := by rfl) : RGs X T (tg :: tgs) (ns ++ ns') (g :: gs) := by
  refine ⟨PGs.imp (pgs_cons h1.pg h2.pgs hs) fun vs σ H Q ⟨m, h, ds, ups, S, r, e, q⟩ => ?_, fun x h ups e => ?_, fun x h ups e => ?_⟩
  · obtain ⟨d, ds, u, w, rfl, e1, e2, rfl⟩ := gAll_cons e
    cases r with
    | cons r1 rr =>
      refine ⟨_, _, rfl, m, h, d, u, S, r1, e1, fun ws hw => ⟨m, h, ds, w, S, rr, e2, fun ws' hw' => ?_⟩⟩
      rw [← setAll_app]
      exact q _ (Paired.app hw hw')
  · obtain ⟨d, ds, u, w, rfl, e1, e2, rfl⟩ := gAll_cons e
    rw [List.map_append, h1.ns _ _ _ e1, h2.ns _ _ _ e2]
  · obtain ⟨d, ds, u, w, rfl, e1, e2, rfl⟩ := gAll_cons e
    rw [List.length_cons, List.length_cons, h2.len _ _ _ e2]
theorem rg_tup {es : List Expr} {j : Nat} {ns : List Nat} {gs : List CG} (hc : X.calm = true) (h : RGs X T es ns gs) (hn : (assignEach es X.env).length = gs.length := by rfl) (hst : (assignEach es X.env).findIdx? (·.1) = none := by rfl) : RG X T (.Tuple es j pos) ns (gTupT gs) := by
  refine ⟨PG.imp (pg_tup hc h.pgs hn hst) fun v σ H Q ⟨m, h0, x, ups, S, r, e, q⟩ => ?_, fun x h0 ups e => ?_⟩
  · unfold gTupT at e
    cases hv : viewD x h0 with
    | none => rw [hv] at e; cases e
    | some d =>
      rw [hv] at e
      cases d with
      | tuple ds =>
        obtain ⟨a, vs, rfl, hz, t⟩ := view_tup S r hv
        have hl := h.len _ _ _ e
        rw [List.length_map] at hl
        exact ⟨a, vs, rfl, hz.sq, by rw [← t.length]; exact hl, m, h0, ds.map .d, ups, S, t.vals, e, q⟩
      | _ => cases e
  · unfold gTupT at e
    cases hv : viewD x h0 with
    | none => rw [hv] at e; cases e
    | some d =>
      rw [hv] at e
      cases d with
      | tuple ds => exact h.ns _ _ _ e
      | _ => cases e
/-! ### assignments -/
def sAsg (g : CG) (e : CE) : CS := sBy e fun x σ h => match g x h with
  | some ups => some (.nx (setAll σ ups), h)
  | none => none
theorem aft_asg {g : CG} {m : MM} {h : AH} {H : Hp} {σa : SA} {x : Val} {v : V} {σ : L2.St} {D : Ends} (S : Sim X.K T m h H) (RS : RepS X.K m H σa σ) (r : RepV X.K m H x v)
    (A : AftS X.K T W m H (match g x h with
      | some ups => some (.nx (setAll σa ups), h)
      | none => none) D) : tG X.K T g v σ H D.nx := by
  obtain ⟨f, h', e, q⟩ := A
  cases hg : g x h with
  | none => rw [hg] at e; cases e
  | some ups =>
    rw [hg] at e; cases e
    exact ⟨m, h, x, ups, S, r, hg, fun ws hw => q m H _ (Ext.refl _ _) S (RS.setAll hw)⟩
theorem rs_set {i : Nat} {x : Str} {pos' : Pos} (nd : X.N.Nodup) (he : RE X T W e ce) (hi : X.N[i]? = some x := by rfl) (hx : Loc X.env.scope x := by first | exact Or.inl rfl | exact Or.inr rfl) (hs : swapsWith e (some (.Name x pos')) pos.line X.env = pure false := by rfl)
    (hf : X.fn x = true ∨ X.env.scope.names.lookup x = some .local := by first | exact .inl rfl | exact .inr rfl) : RS X T W (.Assign [.Name x pos'] e pos) (sAsg (gN i) ce) := ⟨PS.imp (ps_set nd hi hx he.pe hs hf) fun D σ H h => by
  refine by_tE h fun m h1 H1 σa x v S RS r A => ?_
  obtain ⟨f, h', e, q⟩ := A
  cases e
  exact q m H1 _ (Ext.refl _ _) S (RS.set i r)⟩
theorem rs_asg {tg : Expr} {ns : List Nat} {g : CG} (he : RE X T W e ce) (hg : RG X T tg ns g) (hs : swapsWithSole [tg] e pos.line X.env = pure false := by rfl) (hw : swappedStores [tg] e X.env = pure none := by rfl)
    (h1 : (assignEach [tg] X.env).map (·.2) = [assign tg X.env] := by rfl) : RS X T W (.Assign [tg] e pos) (sAsg g ce) := ⟨PS.imp (ps_asg he.pe hg.pg hs hw h1) fun D σ H h => by
  refine by_tE h fun m h1 H1 σa x v S RS r A => ?_
  exact aft_asg S RS r A⟩
/-- o[i] = v -/
abbrev GSet := Val → Val → Val → AH → Option AH
def rSet (K : PySem.W.Frag) (T : Tx) (g : GSet) : TSet := fun vo vi vv H Q => ∃ m h o i v h', Sim K T m h H ∧ RepV K m H o vo ∧ RepV K m H i vi ∧ RepV K m H v vv ∧ g o i v h = some h' ∧ ∀ m' H', Ext m H m' H' → Sim K T m' h' H' → Q H'
def sStore (g : GSet) (eo ei e : CE) : CS := sBy e fun v => sBy eo fun o => sBy ei fun i σ h => match g o i v h with
  | some h' => some (.nx σ, h')
  | none => none
theorem aft_by {ks : Val → CS} {σ : L2.St} {m : MM} {h : AH} {H : Hp} {σa : SA} {D : Ends} {Q : VK} (S : Sim X.K T m h H) (RS : RepS X.K m H σa σ) (A : AftS X.K T W m H (sBy ce ks σa h) D)
    (f : ∀ m1 h1 H1 x v, Ext m H m1 H1 → Sim X.K T m1 h1 H1 → RepV X.K m1 H1 x v → AftS X.K T W m1 H1 (ks x σa h1) D → Q v H1) : tE X T W ce σ H Q := by
  obtain ⟨fl, h', e, q⟩ := A
  refine ⟨m, h, σa, S, RS, ?_⟩
  cases hc : ce σa h with
  | none => unfold sBy at e; rw [hc] at e; cases e
  | some p =>
    obtain ⟨r, h1⟩ := p
    cases r with
    | ok x =>
      rw [sBy_ok hc] at e
      exact ⟨.ok x, h1, rfl, fun m' H' E S' v r => f m' h1 H' x v E S' r (AftS.lower E ⟨fl, h', e, q⟩)⟩
    | exn n fs =>
      unfold sBy at e; rw [hc] at e; cases e
      exact ⟨.exn n fs, h', rfl, fun m' H' cls d E S' z => q m' H' σ cls d E S' (RS.mono E) z⟩
theorem rs_store {o i : Expr} {co ci : CE} {g : GSet} {p : Pos} (he : RE X T W e ce) (ho : RE X T W o co) (hi : RE X T W i ci) (hg : PSet X (rSet X.K T g))
    (ha : ∀ v, assign (.Subscript o i p) X.env v = (do
      let ov ← holding [v] (eval o X.env)
      let iv ← holding [v, ov] (eval i X.env)
      standAt p
      holding [v, ov, iv] (setItem ov iv v)
      release [v, ov, iv] []) := by intro _; rfl)
    (hs : swapsWithSole [.Subscript o i p] e pos.line X.env = pure false := by rfl) (hw : swappedStores [.Subscript o i p] e X.env = pure none := by rfl)
    (h1 : (assignEach [.Subscript o i p] X.env).map (·.2) = [assign (.Subscript o i p) X.env] := by rfl) : RS X T W (.Assign [.Subscript o i p] e pos) (sStore g co ci ce) := ⟨PS.imp (ps_asg he.pe (pg_sub ho.pe hi.pe hg ha) hs hw h1) fun D σ H h => by
  refine by_tE h fun m h1 H1 σa x v S RS r A => ?_
  refine aft_by S RS A fun m2 h2 H2 y w E2 S2 r2 A2 => ?_
  refine aft_by S2 (RS.mono E2) A2 fun m3 h3 H3 z u E3 S3 r3 A3 => ?_
  obtain ⟨f, h', e, q⟩ := A3
  cases hg' : g y z x h3 with
  | none => rw [hg'] at e; cases e
  | some h4 =>
    rw [hg'] at e; cases e
    exact ⟨m3, h3, y, z, x, h', S3, r2.mono E3, r3, (r.mono E2).mono E3, hg', fun m' H' E S => q m' H' σ E S (((RS.mono E2).mono E3).mono E)⟩⟩
end
end MV
namespace MV
open PySem PySem.Spec PyProof.Rows L2

/-! ### what is walked -/
structure ItOk (K : PySem.W.Frag) (T : Tx) (m0 : MM) (H0 : Hp) (xs : List Val) (J : It) : Prop where
  go : ∀ m h H i, ExtF m0 H0 m H → Sim K T m h H → i < xs.length → J.go i H
  yld : ∀ m h H i x H', ExtF m0 H0 m H → Sim K T m h H → i < xs.length → J.yld i H x H' → ∃ xa m', xs[i]? = some xa ∧ Ext m H m' H' ∧ Sim K T m' h H' ∧ RepV K m' H' xa x
  stop : ∀ m h H i, ExtF m0 H0 m H → Sim K T m h H → xs.length ≤ i → J.stop i H
theorem ItOk.mono {K T m0 H0 m1 H1 xs J} (E : ExtF m0 H0 m1 H1) (h : ItOk K T m0 H0 xs J) : ItOk K T m1 H1 xs J :=
  ⟨fun m h' H i e S => h.go m h' H i (E.trans e) S, fun m h' H i x H' e S => h.yld m h' H i x H' (E.trans e) S, fun m h' H i e S => h.stop m h' H i (E.trans e) S⟩
abbrev CI := SA → M (List Val)
def tI (X : Cx) (T : Tx) (W : WX) (c : CI) : TI := fun σ H R => ∃ m h σa, Sim X.K T m h H ∧ RepS X.K m H σa σ ∧ Aft X.K T (fun cls d H => W cls d σ H) m H (c σa h) (fun m' h' H' xs => ∀ J, ItOk X.K T m' H' xs J → R J H')
structure RI (X : Cx) (T : Tx) (W : WX) (tg iter : Expr) (c : CI) : Prop where
  pi : PI X tg iter (tI X T W c)
theorem PI.imp {X : Cx} {tg e : Expr} {t t' : TI} (h : PI X tg e t) (f : ∀ σ H R, t' σ H R → t σ H R) : PI X tg e t' := ⟨fun pins s σ H R I q => h.run pins s σ H R I (f _ _ _ q)⟩
theorem itL {K : PySem.W.Frag} {T : Tx} {m : MM} {H : Hp} {a : Addr} {ds : List PyData} {vs : List V} (hz : FzL K m H a vs) (t : RpL K m H ds vs) : ItOk K T m H (ds.map .d) (Itl K a) := by
  have hl : (ds.map Val.d).length = vs.length := by rw [List.length_map, t.length]
  refine ⟨fun m1 h1 H1 i E S hi => ?_, fun m1 h1 H1 i x H' E S hi y => ?_, fun m1 h1 H1 i E S hi => ?_⟩
  · have hv : i < vs.length := by omega
    exact ⟨vs, vs[i], (hz.monoF E).sq, by simp [hv]⟩
  · obtain ⟨rfl, y⟩ := y
    have e := y vs (hz.monoF E).sq
    obtain ⟨d, e1, r⟩ := t.getV e
    exact ⟨.d d, m1, by rw [List.getElem?_map, e1]; rfl, Ext.refl _ _, S, r.monoF E⟩
  · exact ⟨vs, (hz.monoF E).sq, by omega⟩
/-- a list that is locked, walked -/
theorem itLk {K : PySem.W.Frag} {T : Tx} {m : MM} {H : Hp} {a : Addr} {od : Obj} {xs : List Val} {vs : List V} (hz : H a = some (.frz od (.lst vs))) (t : RepVs K m H xs vs) : ItOk K T m H xs (Itl K a) := by
  have hl : xs.length = vs.length := Paired.len t
  refine ⟨fun m1 h1 H1 i E S hi => ?_, fun m1 h1 H1 i x H' E S hi y => ?_, fun m1 h1 H1 i E S hi => ?_⟩
  · have hv : i < vs.length := by omega
    exact ⟨vs, vs[i], .inl (.inr ⟨_, E.frz _ _ _ hz⟩), by simp [hv]⟩
  · obtain ⟨rfl, y⟩ := y
    have e := y vs (.inl (.inr ⟨_, E.frz _ _ _ hz⟩))
    obtain ⟨d, e1, r⟩ := Paired.at2 t e
    exact ⟨d, m1, e1, Ext.refl _ _, S, r.monoF E⟩
  · exact ⟨vs, .inl (.inr ⟨_, E.frz _ _ _ hz⟩), by omega⟩
theorem itT {K : PySem.W.Frag} {T : Tx} {m : MM} {H : Hp} {a : Addr} {ds : List PyData} {vs : List V} (hz : FzT K m H a vs) (t : RpL K m H ds vs) : ItOk K T m H (ds.map .d) (Itt K a) := by
  have hl : (ds.map Val.d).length = vs.length := by rw [List.length_map, t.length]
  refine ⟨fun m1 h1 H1 i E S hi => ?_, fun m1 h1 H1 i x H' E S hi y => ?_, fun m1 h1 H1 i E S hi => ?_⟩
  · have hv : i < vs.length := by omega
    exact ⟨vs, vs[i], (hz.monoF E).sq, by simp [hv]⟩
  · obtain ⟨rfl, y⟩ := y
    have e := y vs (hz.monoF E).sq
    obtain ⟨d, e1, r⟩ := t.getV e
    exact ⟨.d d, m1, by rw [List.getElem?_map, e1]; rfl, Ext.refl _ _, S, r.monoF E⟩
  · exact ⟨vs, (hz.monoF E).sq, by omega⟩
/-- the intR lo, lo + 1, .. -/
def intR (lo : Int) (n : Nat) : List PyData := (List.range n).map fun i => .int (lo + (i : Nat))
theorem intR_length (lo : Int) (n : Nat) : (intR lo n).length = n := by unfold intR; rw [List.length_map, List.length_range]
theorem intR_get {lo : Int} {n i : Nat} (h : i < n) : (intR lo n)[i]? = some (.int (lo + (i : Nat))) := by
  unfold intR
  rw [List.getElem?_map, List.getElem?_range h]
  rfl
theorem itR {K : PySem.W.Frag} {T : Tx} {m : MM} {H : Hp} {lo : Int} {n : Nat} : ItOk K T m H ((intR lo n).map .d) (Itr lo n) := by
  have hl : ((intR lo n).map Val.d).length = n := by rw [List.length_map, intR_length]
  refine ⟨fun m1 h1 H1 i E S hi => by rw [hl] at hi; exact hi, fun m1 h1 H1 i x H' E S hi y => ?_, fun m1 h1 H1 i E S hi => by rw [hl] at hi; exact hi⟩
  obtain ⟨rfl, rfl⟩ := y
  rw [hl] at hi
  exact ⟨.d (.int (lo + (i : Nat))), m1, by rw [List.getElem?_map, intR_get hi]; rfl, Ext.refl _ _, S, .int _⟩
section
variable {X : Cx} {T : Tx} {W : WX} {k : Nat} {e a b c tg iter : Expr} {pos p : Pos} {ce ca cb : CE} {ct : CT} {cs : CS} {cr : CA} {ci : CI} {es : List Expr}
/-- a list or a tuple that nobody changes, walked -/
def iData (x : Val) : O (List Val) := fun h => match x with
  | .d (.list ds) => some (ds.map .d, h)
  | .d (.tuple ds) => some (ds.map .d, h)
  | .fl ds => some (ds.map .d, h)
  | .ref l => match h[l]? with
    | some (.lL xs) => some (xs, h)
    | _ => none
  | _ => none
def iL (x : Val) : O (List Val) := fun h => match x with
  | .d (.list ds) => some (ds.map .d, h)
  | _ => none
def iT (x : Val) : O (List Val) := fun h => match x with
  | .d (.tuple ds) => some (ds.map .d, h)
  | _ => none
def cIter (f : Val → O (List Val)) (e : CE) : CI := fun σ => bnd (e σ) fun x => lift (f x)
theorem ri_list (he : RE X T W e ce) : RI X T W tg e (cIter iL ce) := ⟨PI.imp (pi_list he.pe) fun σ H R ⟨m, h, σa, S, RS, A⟩ => ⟨m, h, σa, S, RS, A.bind.mono fun m1 h1 H1 x E S1 A1 v r => by
  obtain ⟨xs, h2, e, q⟩ := A1.lifted
  unfold iL at e
  split at e
  · cases e
    cases r with
    | lst hz t => exact ⟨_, rfl, ⟨_, (TrL.fz hz).sq⟩, q m1 H1 (Ext.refl _ _) S1 _ (itL hz.fz t)⟩
  · cases e⟩⟩
theorem ri_tup (he : RE X T W e ce) : RI X T W tg e (cIter iT ce) := ⟨PI.imp (pi_tup he.pe) fun σ H R ⟨m, h, σa, S, RS, A⟩ => ⟨m, h, σa, S, RS, A.bind.mono fun m1 h1 H1 x E S1 A1 v r => by
  obtain ⟨xs, h2, e, q⟩ := A1.lifted
  unfold iT at e
  split at e
  · cases e
    cases r with
    | tup hz t => exact ⟨_, rfl, ⟨_, hz.sq⟩, q m1 H1 (Ext.refl _ _) S1 _ (itT hz t)⟩
  · cases e⟩⟩
/-- a list or a tuple, walked -/
def iSeq (K : PySem.W.Frag) (tl : TE) : TI := fun σ H R => tl σ H fun x H1 => ∃ a, x = .ref a ∧ (((∃ xs, SqL K H1 a xs) ∧ R (Itl K a) H1) ∨ ((∃ xs, SqT K H1 a xs) ∧ R (Itt K a) H1))
theorem pi_seq {l : Expr} {tl : TE} (hl : PE X l tl) : PI X tg l (iSeq X.K tl) := by
  refine ⟨fun pins s σ H R I h => ?_⟩
  refine thn (hl.run pins s σ H _ I h) fun v s1 ⟨x, H1, I1, r1, q1⟩ => ?_
  obtain ⟨a, e, ⟨⟨xs, hq⟩, q⟩ | ⟨⟨xs, hq⟩, q⟩⟩ := q1
  · subst e
    cases r1
    obtain ⟨its, rv, p, hz⟩ := I1.list hq
    refine wpAny_pyIter_list p.isList ?_
    refine ⟨s1.heap.objs.size, [s1.heap.objs.size], _, _, H1, rfl, I1.kept (t' := s1.toks) fun b o e => Heap.get?_push_of_some _ e, turn_list a _, ⟨_, Heap.get?_push_size _ rfl, rfl, rfl⟩, fun b hb => ?_, q⟩
    have e : b = s1.heap.objs.size := by simpa using hb
    subst e
    exact I1.fpOk (Nat.le_refl _) (I1.hok.fresh (Nat.le_refl _))
  · subst e
    cases r1
    obtain ⟨its, rv, p, hz⟩ := I1.tuple hq
    refine wpAny_pyIter_tuple (show s1.heap.IsTuple a its.toArray from p) ?_
    refine ⟨s1.heap.objs.size, [s1.heap.objs.size], _, _, H1, rfl, I1.kept (t' := s1.toks) fun b o e => Heap.get?_push_of_some _ e, turn_tuple a _, ⟨_, Heap.get?_push_size _ rfl, rfl, rfl⟩, fun b hb => ?_, q⟩
    have e : b = s1.heap.objs.size := by simpa using hb
    subst e
    exact I1.fpOk (Nat.le_refl _) (I1.hok.fresh (Nat.le_refl _))
theorem ri_seq (he : RE X T W e ce) : RI X T W tg e (cIter iData ce) := ⟨PI.imp (pi_seq he.pe) fun σ H R ⟨m, h, σa, S, RS, A⟩ => ⟨m, h, σa, S, RS, A.bind.mono fun m1 h1 H1 x E S1 A1 v r => by
  obtain ⟨xs, h2, e, q⟩ := A1.lifted
  unfold iData at e
  split at e
  · cases e
    cases r with
    | lst hz t => exact ⟨_, rfl, .inl ⟨⟨_, (TrL.fz hz).sq⟩, q m1 H1 (Ext.refl _ _) S1 _ (itL hz.fz t)⟩⟩
  · cases e
    cases r with
    | tup hz t => exact ⟨_, rfl, .inr ⟨⟨_, hz.sq⟩, q m1 H1 (Ext.refl _ _) S1 _ (itT hz t)⟩⟩
  · cases e
    obtain ⟨a, vs, rfl, hz, t⟩ := r
    exact ⟨_, rfl, .inl ⟨⟨_, hz.sq⟩, q m1 H1 (Ext.refl _ _) S1 _ (itL hz t)⟩⟩
  · split at e
    · rename_i xs hl
      cases e
      obtain ⟨y, e1, ok⟩ := Paired.at_ S1.cell hl
      cases ok with
      | lL ha hr => exact ⟨_, r.2 _ e1, .inl ⟨⟨_, .inl (.inr ⟨_, ha⟩)⟩, q m1 H1 (Ext.refl _ _) S1 _ (itLk ha hr)⟩⟩
    · cases e
  · cases e⟩⟩
def iRange1 : List Val → O (List Val) := fun xs h => match xs with
  | [.d (.int j)] => if -(2 ^ 62) ≤ j ∧ j < 2 ^ 62 then some ((intR 0 j.toNat).map .d, h) else none
  | _ => none
def iRange2 : List Val → O (List Val) := fun xs h => match xs with
  | [.d (.int i), .d (.int j)] => if (-(2 ^ 62) ≤ i ∧ i < 2 ^ 62) ∧ -(2 ^ 62) ≤ j ∧ j < 2 ^ 62 then some ((intR i (j - i).toNat).map .d, h) else none
  | _ => none
def cIterA (f : List Val → O (List Val)) (e : CA) : CI := fun σ => bnd (e σ) fun x => lift (f x)
theorem ri_range1 (hg : Gl X "range") (hm : X.mg "range" = none) (ha : RA X T W [a] cr) (hs : starEach [a] X.env = [(false, eval a X.env)] := by rfl) : RI X T W tg (.Call (.Name "range" p) [a] [] pos) (cIterA iRange1 cr) := ⟨PI.imp (pi_range1 hg hm ha.pa hs) fun σ H R ⟨m, h, σa, S, RS, A⟩ => ⟨m, h, σa, S, RS, A.bind.mono fun m1 h1 H1 x E S1 A1 v r => by
  obtain ⟨xs, h2, e, q⟩ := A1.lifted
  unfold iRange1 at e
  split at e
  · rename_i j
    by_cases hj : -(2 ^ 62) ≤ j ∧ j < 2 ^ 62
    · rw [if_pos hj] at e; cases e
      cases r with
      | cons r rr =>
        cases rr
        cases (show Rp X.K m1 H1 (.int j) _ from r)
        exact ⟨j, rfl, hj.1, hj.2, q m1 H1 (Ext.refl _ _) S1 _ itR⟩
    · rw [if_neg hj] at e; cases e
  · cases e⟩⟩
theorem ri_range2 (hg : Gl X "range") (hm : X.mg "range" = none) (ha : RA X T W [a, b] cr) (hs : starEach [a, b] X.env = [(false, eval a X.env), (false, eval b X.env)] := by rfl) (hs2 : starEach [b] X.env = [(false, eval b X.env)] := by rfl) : RI X T W tg (.Call (.Name "range" p) [a, b] [] pos) (cIterA iRange2 cr) := ⟨PI.imp (pi_range2 hg hm ha.pa hs hs2) fun σ H R ⟨m, h, σa, S, RS, A⟩ => ⟨m, h, σa, S, RS, A.bind.mono fun m1 h1 H1 x E S1 A1 v r => by
  obtain ⟨xs, h2, e, q⟩ := A1.lifted
  unfold iRange2 at e
  split at e
  · rename_i i j
    by_cases hj : (-(2 ^ 62) ≤ i ∧ i < 2 ^ 62) ∧ -(2 ^ 62) ≤ j ∧ j < 2 ^ 62
    · rw [if_pos hj] at e; cases e
      cases r with
      | cons r rr =>
        cases rr with
        | cons r2 rr =>
          cases rr
          cases (show Rp X.K m1 H1 (.int i) _ from r)
          cases (show Rp X.K m1 H1 (.int j) _ from r2)
          exact ⟨i, j, rfl, ⟨hj.1.1, hj.1.2, hj.2.1, hj.2.2⟩, q m1 H1 (Ext.refl _ _) S1 _ itR⟩
    · rw [if_neg hj] at e; cases e
  · cases e⟩⟩
/-! ### for -/
def sLoop (g : CG) (b : CS) : List Val → CS
  | [], σ, h => some (.nx σ, h)
  | x :: xs, σ, h => match g x h with
    | none => none
    | some ups => match b (setAll σ ups) h with
      | some (.nx σ', h') => sLoop g b xs σ' h'
      | some (.ct σ', h') => sLoop g b xs σ' h'
      | some (.bk σ', h') => some (.nx σ', h')
      | o => o
def sFor (ci : CI) (g : CG) (b : CS) : CS := fun σ h => match ci σ h with
  | some (.ok xs, h') => sLoop g b xs σ h'
  | some (.exn n fs, h') => some (.ex σ n fs, h')
  | none => none
theorem rs_for {body : List Stmt} {ns : List Nat} {g : CG} (C : Cok X W k) (hi : RI X T W tg iter ci) (hg : RG X T tg ns g) (hb : RSs X T W body cs) (hs : ∀ x, foldedSetIterable iter X.env x = pure x := by intro _; rfl) : RS X T W (.For tg iter body [] pos) (sFor ci g cs) := ⟨PS.imp (ps_for C.own C.calm hi.pi hg.pg hb.pss hs) fun D σ H ⟨m, h, σa, S, RS, fl, h', e, q⟩ => by
  refine ⟨m, h, σa, S, RS, ?_⟩
  cases hc : ci σa h with
  | none => unfold sFor at e; rw [hc] at e; cases e
  | some p =>
    obtain ⟨r, h1⟩ := p
    cases r with
    | exn n fs =>
      unfold sFor at e; rw [hc] at e; cases e
      exact ⟨.exn n fs, h', rfl, fun m' H' cls d E S' z => q m' H' σ cls d E S' (RS.mono E) z⟩
    | ok xs =>
      refine ⟨.ok xs, h1, rfl, fun m1 H1 E1 S1 J hJ => ?_⟩
      have e0 : sLoop g cs xs σa h1 = some (fl, h') := by
        have z := e
        unfold sFor at z
        rw [hc] at z
        exact z
      have A0 : AftS X.K T W m1 H1 (sLoop g cs xs σa h1) D := AftS.lower E1 ⟨fl, h', e0, q⟩
      refine ⟨fun i mm σ H => mm = xs.length - i ∧ ∃ m h σa, Ext m1 H1 m H ∧ Sim X.K T m h H ∧ RepS X.K m H σa σ ∧ AftS X.K T W m H (sLoop g cs (xs.drop i) σa h) D, ⟨_, rfl, m1, h1, σa, Ext.refl _ _, S1, RS.mono E1, A0⟩, ?_⟩
      rintro i mm σ2 H2 ⟨rfl, m2, h2, σa2, E2, S2, RS2, A2⟩
      by_cases hi : i < xs.length
      · refine .inr ⟨hJ.go m2 h2 H2 i E2 S2 hi, fun σ' H' => ∃ m h σa, Ext m1 H1 m H' ∧ Sim X.K T m h H' ∧ RepS X.K m H' σa σ' ∧ AftS X.K T W m H' (sLoop g cs (xs.drop (i + 1)) σa h) D, fun σ' H' hN => ⟨xs.length - (i + 1), by omega, rfl, hN⟩, fun x H3 y => ?_⟩
        obtain ⟨xa, m3, ex, E3, S3, rx⟩ := hJ.yld m2 h2 H2 i x H3 E2 S2 hi y
        have hd : xs.drop i = xa :: xs.drop (i + 1) := by
          obtain ⟨hi', e'⟩ := List.getElem?_eq_some_iff.mp ex
          rw [List.drop_eq_getElem_cons hi', e']
        rw [hd] at A2
        have A3 := AftS.lower E3 A2
        obtain ⟨f4, h4, e4, q4⟩ := A3
        unfold sLoop at e4
        cases hgx : g xa h2 with
        | none => rw [hgx] at e4; cases e4
        | some ups =>
          rw [hgx] at e4
          refine ⟨m3, h2, xa, ups, S3, rx, hgx, fun ws hw => ⟨m3, h2, setAll σa2 ups, S3, (RS2.mono E3).setAll hw, ?_⟩⟩
          cases hb2 : cs (setAll σa2 ups) h2 with
          | none => simp only [hb2] at e4; cases e4
          | some p5 =>
            obtain ⟨f5, h5⟩ := p5
            simp only [hb2] at e4
            cases f5 with
            | nx σ5 => exact ⟨_, _, rfl, fun m' H' s E S R => ⟨m', h5, σ5, (E2.trans E3).trans E, S, R, AftS.lower E ⟨f4, h4, e4, q4⟩⟩⟩
            | ct σ5 => exact ⟨_, _, rfl, fun m' H' s E S R => ⟨m', h5, σ5, (E2.trans E3).trans E, S, R, AftS.lower E ⟨f4, h4, e4, q4⟩⟩⟩
            | bk σ5 => cases e4; exact ⟨_, _, rfl, q4⟩
            | rt v => cases e4; exact ⟨_, _, rfl, q4⟩
            | ex s n fs => cases e4; exact ⟨_, _, rfl, q4⟩
      · refine .inl ⟨hJ.stop m2 h2 H2 i E2 S2 (by omega), ?_⟩
        rw [List.drop_of_length_le (by omega)] at A2
        obtain ⟨f4, h4, e4, q4⟩ := A2
        cases e4
        exact q4 m2 H2 σ2 (Ext.refl _ _) S2 RS2⟩
/-! ### while -/
def whileN (t : CT) (b : CS) : Nat → CS
  | 0, _, _ => none
  | n + 1, σ, h => match t σ h with
    | none => none
    | some (.exn n fs, h') => some (.ex σ n fs, h')
    | some (.ok false, h') => some (.nx σ, h')
    | some (.ok true, h') => match b σ h' with
      | some (.nx σ', h2) => whileN t b n σ' h2
      | some (.ct σ', h2) => whileN t b n σ' h2
      | some (.bk σ', h2) => some (.nx σ', h2)
      | o => o
theorem rs_while {body : List Stmt} (n : Nat) (C : Cok X W k) (ht : RT X T W e ct) (hb : RSs X T W body cs) : RS X T W (.While e body [] pos) (whileN ct cs n) := ⟨PS.imp (ps_while C.own ht.pt hb.pss) fun D σ H ⟨m, h, σa, S, RS, A⟩ => by
  refine ⟨fun n σ H => ∃ m h σa, Sim X.K T m h H ∧ RepS X.K m H σa σ ∧ AftS X.K T W m H (whileN ct cs n σa h) D, ⟨n, m, h, σa, S, RS, A⟩, ?_⟩
  rintro n σ2 H2 ⟨m2, h2, σa2, S2, RS2, f, h', e, q⟩
  refine ⟨m2, h2, σa2, S2, RS2, ?_⟩
  cases n with
  | zero => cases e
  | succ n =>
    unfold whileN at e
    cases hc : ct σa2 h2 with
    | none => rw [hc] at e; cases e
    | some p =>
      obtain ⟨r, h3⟩ := p
      rw [hc] at e
      cases r with
      | exn nn fs => cases e; exact ⟨_, _, rfl, fun m' H' cls d E S' z => q m' H' σ2 cls d E S' (RS2.mono E) z⟩
      | ok bb =>
        refine ⟨_, _, rfl, fun m3 H3 E3 S3 b' rb => ?_⟩
        subst rb
        cases b' with
        | false => cases e; exact q m3 H3 σ2 E3 S3 (RS2.mono E3)
        | true =>
          rw [if_pos rfl]
          refine ⟨fun σ' H' => ∃ m h σa, Sim X.K T m h H' ∧ RepS X.K m H' σa σ' ∧ AftS X.K T W m H' (whileN ct cs n σa h) D, fun σ' H' hN => ⟨n, Nat.lt_succ_self n, hN⟩, m3, h3, σa2, S3, RS2.mono E3, ?_⟩
          cases hb2 : cs σa2 h3 with
          | none => simp only [hb2] at e; cases e
          | some p5 =>
            obtain ⟨f5, h5⟩ := p5
            simp only [hb2] at e
            have A3 : AftS X.K T W m3 H3 (some (f, h')) D := AftS.lower E3 ⟨f, h', rfl, q⟩
            obtain ⟨f', h'', ee, q3⟩ := A3
            cases ee
            cases f5 with
            | nx σ5 => exact ⟨_, _, rfl, fun m' H' s E S R => ⟨m', h5, σ5, S, R, AftS.lower E ⟨_, _, e, q3⟩⟩⟩
            | ct σ5 => exact ⟨_, _, rfl, fun m' H' s E S R => ⟨m', h5, σ5, S, R, AftS.lower E ⟨_, _, e, q3⟩⟩⟩
            | bk σ5 => cases e; exact ⟨_, _, rfl, q3⟩
            | rt v => cases e; exact ⟨_, _, rfl, q3⟩
            | ex s n fs => cases e; exact ⟨_, _, rfl, q3⟩⟩
end
end MV
namespace MV
open PySem PySem.Spec PyProof.Rows L2

/-! ### fewer cells -/
def Val.below (n : Nat) : Val → Bool
  | .d _ => true
  | .ref l => decide (l < n)
  | .fl _ => true
def Cell.below (n : Nat) : Cell → Bool
  | .lst xs => xs.all (Val.below n)
  | .dK kvs => kvs.all fun p => p.2.below n
  | .dT kvs => kvs.all fun p => p.2.below n
  | .ins _ fs => fs.all fun p => p.2.below n
  | .lT kvs => kvs.all fun p => p.2.below n
  | .lK kvs => kvs.all fun p => p.2.below n
  | .lL xs => xs.all (Val.below n)
  | .dead => true
theorem FzL.sub {K m m' H a xs} (f : ∀ a, some a ∈ m' → some a ∈ m) (h : FzL K m H a xs) : FzL K m' H a xs := h.elim (fun h => .inl ⟨h.1, fun q => h.2 (f _ q)⟩) .inr
theorem FzT.sub {K m m' H a xs} (f : ∀ a, some a ∈ m' → some a ∈ m) (h : FzT K m H a xs) : FzT K m' H a xs := ⟨h.1, fun q => h.2 (f _ q)⟩
theorem TrL.sub {m m' H a xs} (f : ∀ a, some a ∈ m' → some a ∈ m) (h : TrL m H a xs) : TrL m' H a xs := ⟨h.1, fun q => h.2 (f _ q)⟩
mutual
theorem Rp.sub {K m m' H} (f : ∀ a, some a ∈ m' → some a ∈ m) : ∀ {d v}, Rp K m H d v → Rp K m' H d v
  | _, _, .non => .non
  | _, _, .bl b => .bl b
  | _, _, .int i => .int i
  | _, _, .str x => .str x
  | _, _, .lst h t => .lst (h.sub f) (RpL.sub f t)
  | _, _, .tup h t => .tup (h.sub f) (RpL.sub f t)
theorem RpL.sub {K m m' H} (f : ∀ a, some a ∈ m' → some a ∈ m) : ∀ {d v}, RpL K m H d v → RpL K m' H d v
  | _, _, .nil => .nil
  | _, _, .cons h t => .cons (Rp.sub f h) (RpL.sub f t)
end
theorem take_sub {m : MM} {n : Nat} : ∀ a, some a ∈ m.take n → some a ∈ m := fun a h => List.mem_of_mem_take h
theorem RepV.cut {K m H n} (hn : n ≤ m.length) : ∀ {x v}, x.below n = true → RepV K m H x v → RepV K (m.take n) H x v
  | .d _, _, _, h => Rp.sub take_sub h
  | .fl _, _, _, ⟨a, vs, e, h, t⟩ => ⟨a, vs, e, h.sub take_sub, t.sub take_sub⟩
  | .ref l, _, hb, h => by
    have hl : l < n := of_decide_eq_true hb
    refine ⟨by rw [List.length_take]; omega, fun a e => h.2 a ?_⟩
    rw [List.getElem?_take_of_lt hl] at e
    exact e
theorem RepVs.cut {K m H n} (hn : n ≤ m.length) : ∀ {xs vs}, xs.all (Val.below n) = true → RepVs K m H xs vs → RepVs K (m.take n) H xs vs
  | _, _, _, .nil => .nil
  | x :: xs, _, hb, .cons r t => by
    rw [List.all_cons, Bool.and_eq_true] at hb
    exact .cons (RepV.cut hn hb.1 r) (RepVs.cut hn hb.2 t)
theorem kv_cut {κ : Type} {K m H n} (hn : n ≤ m.length) : ∀ {xs : List (κ × Val)} {vs : List (κ × V)}, (xs.all fun p => p.2.below n) = true → Paired (fun (p : κ × Val) (q : κ × V) => p.1 = q.1 ∧ RepV K m H p.2 q.2) xs vs → Paired (fun (p : κ × Val) (q : κ × V) => p.1 = q.1 ∧ RepV K (m.take n) H p.2 q.2) xs vs
  | _, _, _, .nil => .nil
  | x :: xs, _, hb, .cons r t => by
    rw [List.all_cons, Bool.and_eq_true] at hb
    exact .cons ⟨r.1, RepV.cut hn hb.1 r.2⟩ (kv_cut hn hb.2 t)
theorem CellOk.cut {K m H n} (hn : n ≤ m.length) {c : Cell} {x : Option Addr} (hb : c.below n = true) (h : CellOk K m H c x) : CellOk K (m.take n) H c x := by
  cases h with
  | lst e r => exact .lst e (RepVs.cut hn hb r)
  | dK e r => exact .dK e (kv_cut hn hb r)
  | dT e r => exact .dT e (kv_cut hn hb r)
  | ins e r => exact .ins e (kv_cut hn hb r)
  | lT e r => exact .lT e (kv_cut hn hb r)
  | lK e r => exact .lK e (kv_cut hn hb r)
  | lL e r => exact .lL e (RepVs.cut hn hb r)
  | dead => exact .dead
theorem Paired.takeAll {α β : Type} {F G : α → β → Prop} {P : α → Bool} (f : ∀ a b, P a = true → F a b → G a b) : ∀ {l₁ : List α} {l₂ : List β} (n : Nat), (l₁.take n).all P = true → Paired F l₁ l₂ → Paired G (l₁.take n) (l₂.take n)
  | _, _, 0, _, _ => .nil
  | _, _, _ + 1, _, .nil => .nil
  | x :: xs, _, n + 1, hb, .cons r t => by
    rw [List.take_succ_cons, List.all_cons, Bool.and_eq_true] at hb
    exact .cons (f _ _ hb.1 r) (Paired.takeAll f n hb.2 t)
theorem Sim.cut {K T m h H} (S : Sim K T m h H) {n : Nat} (hn : n ≤ m.length) (hb : (h.take n).all (Cell.below n) = true) : Sim K T (m.take n) (h.take n) H := by
  refine ⟨Paired.takeAll (P := Cell.below n) (fun c x hc q => q.cut hn hc) n hb S.cell, fun l l' a e1 e2 => ?_, S.tab⟩
  have g : ∀ {l : Nat}, (m.take n)[l]? = some (some a) → m[l]? = some (some a) := fun {l} e => by
    have hl : l < n := by
      rcases Nat.lt_or_ge l n with q | q
      · exact q
      · rw [List.getElem?_eq_none (by rw [List.length_take]; omega)] at e; cases e
    rw [List.getElem?_take_of_lt hl] at e
    exact e
  exact S.inj l l' a (g e1) (g e2)
theorem Ext.cut {m H m1 H1} (E : Ext m H m1 H1) : Ext m H (m1.take m.length) H1 := by
  refine ⟨⟨⟨by rw [List.length_take]; have := E.len; omega, fun l a hl e => E.at' l a hl ?_, fun a o e n n2 hm => (fun q => ⟨q.1, fun z => q.2 (take_sub a z)⟩) (E.keep a o e n n2 hm)⟩, E.frz⟩, E.ext⟩
  rw [List.getElem?_take_of_lt hl] at e
  exact e

/-! ### a list comprehension -/
def wipeA (σ : SA) : List Nat → SA
  | [] => σ
  | v :: vs => (wipeA σ vs).set v none
theorem RepS.setN {K m H σa σ} (h : RepS K m H σa σ) (i : Nat) : RepS K m H (σa.set i none) (σ.set i none) :=
  Paired.setP (F := fun (x : Option Val) (v : Option V) => ∀ a, x = some a → ∃ w, v = some w ∧ RepV K m H a w) (x := none) (y := none) (fun a ea => by cases ea) i h
theorem RepS.wipe {K m H σa σ} (h : RepS K m H σa σ) : ∀ vs : List Nat, RepS K m H (wipeA σa vs) (wipe σ vs)
  | [] => h
  | v :: vs => RepS.setN (RepS.wipe h vs) v
def lcL (g : CG) (tt : CT) (te : CE) (L : Nat) (σ : SA) : List Val → AH → Option AH
  | [], h => some h
  | x :: xs, h => match g x h with
    | none => none
    | some ups => match tt (setAll σ ups) h with
      | some (.ok false, h1) => lcL g tt te L σ xs h1
      | some (.ok true, h1) => match te (setAll σ ups) h1 with
        | some (.ok y, h2) => match h2[L]? with
          | some (.lst acc) => if acc.length < sizeLine then lcL g tt te L σ xs (h2.set L (.lst (acc ++ [y]))) else none
          | _ => none
        | _ => none
      | _ => none
def lcEnd (n : Nat) (h : AH) : Option (Val × AH) := if h.length = n + 1 ∧ (h.take n).all (Cell.below n) = true then match h[n]? with
    | some (.lst acc) => (allD acc).map fun ds => (.d (.list ds), h.take n)
    | _ => none
  else none
def cLc (ci : CI) (own : List Nat) (g : CG) (tt : CT) (te : CE) : CE := fun σ => bnd (ci σ) fun xs => lift fun h => (lcL g tt te h.length (wipeA σ own) xs (h ++ [.lst []])).bind (lcEnd h.length)
def cYes : CT := fun _ => ret true
/-- a slot that the block owns is forgotten -/
theorem wipe_set {σ : L2.St} {i : Nat} {v : Option V} : ∀ {vs : List Nat}, i ∈ vs → wipe (σ.set i v) vs = wipe σ vs
  | [], h => by simp at h
  | w :: vs, h => by
    show (wipe (σ.set i v) vs).set w none = (wipe σ vs).set w none
    by_cases hi : i ∈ vs
    · rw [wipe_set hi]
    · have e : i = w := by
        rcases List.mem_cons.mp h with q | q
        · exact q
        · exact absurd q hi
      subst e
      have key : ∀ (us : List Nat) (τ : L2.St), wipe (τ.set i v) us = (wipe τ us).set i v ∨ wipe (τ.set i v) us = wipe τ us := by
        intro us
        induction us with
        | nil => exact fun τ => .inl rfl
        | cons u us ih =>
          intro τ
          show ((wipe (τ.set i v) us).set u none = ((wipe τ us).set u none).set i v) ∨ ((wipe (τ.set i v) us).set u none = (wipe τ us).set u none)
          rcases ih τ with q | q
          · rw [q]
            by_cases hu : u = i
            · subst hu; right; rw [List.set_set]
            · left; exact List.set_comm _ _ (Ne.symm hu)
          · right; rw [q]
      rcases key vs σ with q | q
      · rw [q, List.set_set]
      · rw [q]
theorem wipe_wipe {vs : List Nat} (σ : L2.St) : ∀ us : List Nat, (∀ u ∈ us, u ∈ vs) → wipe (wipe σ us) vs = wipe σ vs
  | [], _ => rfl
  | u :: us, h => by
    show wipe ((wipe σ us).set u none) vs = _
    rw [wipe_set (h u List.mem_cons_self), wipe_wipe σ us fun w hw => h w (List.mem_cons_of_mem _ hw)]
theorem wipe_setAll {vs : List Nat} : ∀ (ws : List (Nat × V)) (σ : L2.St), (∀ w ∈ ws, w.1 ∈ vs) → wipe (setAll σ ws) vs = wipe σ vs
  | [], _, _ => rfl
  | (i, v) :: r, σ, h => by
    show wipe (setAll (σ.set i (some v)) r) vs = _
    rw [wipe_setAll r _ fun w hw => h w (List.mem_cons_of_mem _ hw), wipe_set (h (i, v) List.mem_cons_self)]
theorem ups_fst {K m H} : ∀ {ups : List (Nat × Val)} {ws : List (Nat × V)}, Ups K m H ups ws → ws.map (·.1) = ups.map (·.1)
  | _, _, .nil => rfl
  | _, _, .cons h t => by rw [List.map_cons, List.map_cons, h.1, ups_fst t]
abbrev W0 : WX := fun _ _ _ _ => False
/-- the new list is a cell while it is filled -/
theorem Ext.push {K T m h H} (S : Sim K T m h H) {D : Addr} {o : HO} (hD : H D = none) : Ext m H (m ++ [some D]) (upd H D o) := by
  refine ⟨⟨⟨by rw [List.length_append]; omega, fun l a hl e => by rw [List.getElem?_append_left hl] at e; exact e, fun a u e n _ hm => ⟨by rw [upd_ne (ne_of_none e hD)]; exact e, fun z => ?_⟩⟩, fun a od u e => by rw [upd_ne (ne_of_none e hD)]; exact e⟩, fun a φ e => by rw [upd_ne (ne_of_none e hD)]; exact e⟩
  rcases List.mem_append.mp z with z | z
  · exact hm z
  · have : a = D := by simpa using z
    subst this
    rw [hD] at e; cases e
theorem Sim.push {K T m h H} (S : Sim K T m h H) {D : Addr} {vs : List V} {xs : List Val} (hD : H D = none) (r : RepVs K m H xs vs) : Sim K T (m ++ [some D]) (h ++ [.lst xs]) (upd H D (.lst vs)) := by
  have E : Ext m H (m ++ [some D]) (upd H D (.lst vs)) := Ext.push S hD
  have nin : ∀ (l : Nat) (a : Addr), l < m.length → (m ++ [some D])[l]? = some (some a) → a ≠ D := fun l a hl e q => by
    rw [List.getElem?_append_left hl] at e
    exact S.free hD (q ▸ List.mem_iff_getElem?.mpr ⟨l, e⟩)
  have lastAt : ∀ (l : Nat) (a : Addr), ¬ l < m.length → (m ++ [some D])[l]? = some (some a) → l = m.length ∧ a = D := fun l a hl e => by
    rw [List.getElem?_append_right (by omega)] at e
    have h0 : l - m.length = 0 := by
      rcases Nat.eq_zero_or_pos (l - m.length) with q | q
      · exact q
      · rw [List.getElem?_eq_none (by rw [List.length_singleton]; omega)] at e; cases e
    rw [h0] at e
    have ea : some D = some a := by simpa using e
    cases ea
    exact ⟨by omega, rfl⟩
  refine ⟨Paired.app (Paired.mem_map S.cell fun c x hx q => q.mono E fun a ea => by rw [upd_ne (S.ne hD (ea ▸ hx))]) (.cons (.lst upd_same (r.mono E)) .nil), fun l l' a e1 e2 => ?_, fun P hP => ?_⟩
  · by_cases h1 : l < m.length
    · by_cases h2 : l' < m.length
      · rw [List.getElem?_append_left h1] at e1
        rw [List.getElem?_append_left h2] at e2
        exact S.inj l l' a e1 e2
      · exact absurd (lastAt l' a h2 e2).2 (nin l a h1 e1)
    · by_cases h2 : l' < m.length
      · exact absurd (lastAt l a h1 e1).2 (nin l' a h2 e2)
      · exact (lastAt l a h1 e1).1.trans (lastAt l' a h2 e2).1.symm
  · obtain ⟨ps, e, t⟩ := S.tab P hP
    exact ⟨ps, by rw [upd_ne (ne_of_none e hD)]; exact e, t⟩
theorem HO.lst_tbl {xs : List V} {ps : Array Value} : HO.lst xs ≠ HO.tbl ps := fun z => by cases z
/-- a cell is stored to -/
theorem Ext0.store {m H} {l : Nat} {a : Addr} (e : m[l]? = some (some a)) (o : HO) : Ext0 m H m (upd H a o) :=
  ⟨Nat.le_refl _, fun _ _ _ q => q, fun b u eb n _ hm => ⟨by
    have nb : b ≠ a := fun z => by
      subst z
      exact hm (List.mem_iff_getElem?.mpr ⟨l, e⟩)
    rw [upd_ne nb]
    exact eb, hm⟩⟩
theorem Ext.store {m H} {l : Nat} {a : Addr} (e : m[l]? = some (some a)) (o : HO) (hz : ∃ x, H a = some x ∧ (∀ od u, x ≠ .frz od u) ∧ ∀ φ, x ≠ .ext φ := by exact ⟨_, by assumption, (fun _ _ z => nomatch z), (fun _ z => nomatch z)⟩) : Ext m H m (upd H a o) :=
  ⟨⟨Ext0.store e o, fun b od u eb => by
    rw [upd_ne (fun z => ?_)]
    · exact eb
    · subst z
      obtain ⟨x, ex, nx, _⟩ := hz
      rw [ex] at eb
      cases eb
      exact nx _ _ rfl⟩, fun b φ eb => by
    rw [upd_ne (fun z => ?_)]
    · exact eb
    · subst z
      obtain ⟨x, ex, _, nx⟩ := hz
      rw [ex] at eb
      cases eb
      exact nx _ rfl⟩
theorem Paired.setMem {α β : Type} {F G : α → β → Prop} : ∀ {l₁ : List α} {l₂ : List β} (i : Nat) (x : α), Paired F l₁ l₂ → (∀ (j : Nat) a b, j ≠ i → l₂[j]? = some b → F a b → G a b) → (∀ b, l₂[i]? = some b → G x b) → Paired G (l₁.set i x) l₂
  | _, _, _, _, .nil, _, _ => .nil
  | _, _, 0, x, .cons r t, f, g => .cons (g _ rfl) (Paired.mem_get t fun j a b e q => f (j + 1) a b (Nat.succ_ne_zero j) (by simpa using e) q)
  | _, _, i + 1, x, .cons r t, f, g => .cons (f 0 _ _ (Nat.succ_ne_zero i).symm rfl r) (Paired.setMem i x t (fun j a b n e q => f (j + 1) a b (fun z => n (Nat.succ.inj z)) (by simpa using e) q) fun b e => g b (by simpa using e))
where
  Paired.mem_get : ∀ {l₁ : List α} {l₂ : List β}, Paired F l₁ l₂ → (∀ (j : Nat) a b, l₂[j]? = some b → F a b → G a b) → Paired G l₁ l₂
  | _, _, .nil, _ => .nil
  | _, _, .cons r t, f => .cons (f 0 _ _ rfl r) (Paired.mem_get t fun j a b e q => f (j + 1) a b (by simpa using e) q)
theorem Sim.store {K T m h H} (S : Sim K T m h H) {l : Nat} {a : Addr} {c : Cell} {o : HO} (e : m[l]? = some (some a)) (ok : CellOk K m (upd H a o) c (some a)) : Sim K T m (h.set l c) (upd H a o) := by
  refine ⟨Paired.setMem l c S.cell (fun j c' x nj ej q => q.mono0 (Ext0.store e o) fun b eb => ?_) (fun x ex => by rw [e] at ex; cases ex; exact ok), S.inj, fun P hP => ?_⟩
  · subst eb
    exact upd_ne fun z => nj (S.inj j l a (z ▸ ej) e)
  · obtain ⟨ps, ep, t⟩ := S.tab P hP
    obtain ⟨c0, _, ok0⟩ := S.of e
    obtain ⟨o', eo, nt⟩ := ok0.stands
    refine ⟨ps, ?_, t⟩
    rw [upd_ne (fun z => ?_)]
    · exact ep
    · subst z
      rw [ep] at eo; cases eo
      exact nt ps rfl
section
variable {X : Cx} {T : Tx} {W : WX} {k : Nat} {elt tg iter : Expr} {ifs : List Expr} {pos p : Pos} {ce : CE} {ct : CT} {ci : CI} {ns : List Nat} {g : CG}
theorem lc_read {own : List (Str × Nat)} {σ : L2.St} {H : Hp} {Q : VK} (hns : ∀ i ∈ ns, i ∈ own.map (·.2)) (hn : ∀ x h ups, g x h = some ups → ups.map (·.1) = ns)
    (h : tE X T W (cLc ci (own.map (·.2)) g ct ce) σ H Q) : tLc (tI X T W ci) (tG X.K T g) (tT X T W0 ct) (tE X T W0 ce) (own.map (·.2)) σ H Q := by
  obtain ⟨m, h0, σa, S, RS, A⟩ := h
  refine ⟨m, h0, σa, S, RS, A.bind.mono fun m1 h1 H1 xs E1 S1 A1 J hJ D hD => ?_⟩
  obtain ⟨z, h9, e9, q9⟩ := A1.lifted
  obtain ⟨hE, eL, eE⟩ := Option.bind_eq_some_iff.mp e9
  have RS1 : RepS X.K m1 H1 (wipeA σa (own.map (·.2))) (wipe σ (own.map (·.2))) := (RS.mono E1).wipe _
  have hm1 : h1.length = m1.length := S1.len
  have E2 : Ext m1 H1 (m1 ++ [some D]) (upd H1 D (.lst [])) := Ext.push S1 hD
  refine ⟨fun i mm H => mm = xs.length - i ∧ ∃ m h, Ext (m1 ++ [some D]) (upd H1 D (.lst [])) m H ∧ Sim X.K T m h H ∧ lcL g ct ce h1.length (wipeA σa (own.map (·.2))) (xs.drop i) h = some hE, ⟨_, rfl, m1 ++ [some D], h1 ++ [.lst []], Ext.refl _ _, S1.push hD .nil, by rw [List.drop_zero]; exact eL⟩, ?_⟩
  rintro i mm H2 ⟨rfl, m2, h2, E3, S2, e2⟩
  have hJ2 : ItOk X.K T (m1 ++ [some D]) (upd H1 D (.lst [])) xs J := hJ.mono E2
  by_cases hi : i < xs.length
  · refine .inr ⟨hJ2.go m2 h2 H2 i E3 S2 hi, fun H' => ∃ m h, Ext (m1 ++ [some D]) (upd H1 D (.lst [])) m H' ∧ Sim X.K T m h H' ∧ lcL g ct ce h1.length (wipeA σa (own.map (·.2))) (xs.drop (i + 1)) h = some hE, fun H' hN => ⟨xs.length - (i + 1), by omega, rfl, hN⟩, fun x H3 y => ?_⟩
    obtain ⟨xa, m3, ex, E4, S3, rx⟩ := hJ2.yld m2 h2 H2 i x H3 E3 S2 hi y
    have hd : xs.drop i = xa :: xs.drop (i + 1) := by
      obtain ⟨hi', e'⟩ := List.getElem?_eq_some_iff.mp ex
      rw [List.drop_eq_getElem_cons hi', e']
    rw [hd] at e2
    unfold lcL at e2
    cases hgx : g xa h2 with
    | none => rw [hgx] at e2; cases e2
    | some ups =>
      simp only [hgx] at e2
      refine ⟨m3, h2, xa, ups, S3, rx, hgx, fun ws hw => ⟨?_, m3, h2, setAll (wipeA σa (own.map (·.2))) ups, S3, ?_, ?_⟩⟩
      · rw [wipe_setAll ws _ fun w hw' => hns _ (by
          have : w.1 ∈ ws.map (·.1) := List.mem_map.mpr ⟨w, hw', rfl⟩
          rw [ups_fst hw, hn _ _ _ hgx] at this
          exact this), wipe_wipe σ _ fun u hu => hu]
      · exact (((RS1.mono E2).mono E3).mono E4).setAll hw
      · cases ht : ct (setAll (wipeA σa (own.map (·.2))) ups) h2 with
        | none => simp only [ht] at e2; cases e2
        | some p5 =>
          obtain ⟨r5, h5⟩ := p5
          simp only [ht] at e2
          cases r5 with
          | exn _ _ => cases e2
          | ok bb =>
            refine ⟨_, _, rfl, fun m5 H5 E5 S5 b' rb => ?_⟩
            subst rb
            cases b' with
            | false =>
              rw [if_neg Bool.false_ne_true]
              exact ⟨m5, h5, (E3.trans E4).trans E5, S5, e2⟩
            | true =>
              rw [if_pos rfl]
              simp only at e2
              refine ⟨m5, h5, setAll (wipeA σa (own.map (·.2))) ups, S5, ((((RS1.mono E2).mono E3).mono E4).setAll hw).mono E5, ?_⟩
              cases he : ce (setAll (wipeA σa (own.map (·.2))) ups) h5 with
              | none => simp only [he] at e2; cases e2
              | some p6 =>
                obtain ⟨r6, h6⟩ := p6
                simp only [he] at e2
                cases r6 with
                | exn _ _ => cases e2
                | ok y6 =>
                  refine ⟨_, _, rfl, fun m6 H6 E6 S6 v6 r6 => ?_⟩
                  simp only at e2
                  cases hL : h6[h1.length]? with
                  | none => simp only [hL] at e2; cases e2
                  | some c6 =>
                    simp only [hL] at e2
                    cases c6 with
                    | lst acc =>
                      simp only at e2
                      by_cases hz : acc.length < sizeLine
                      · rw [if_pos hz] at e2
                        have EE : Ext (m1 ++ [some D]) (upd H1 D (.lst [])) m6 H6 := ((E3.trans E4).trans E5).trans E6
                        obtain ⟨x7, ex7, ok7⟩ := Paired.at_ S6.cell hL
                        cases ok7 with
                        | @lst a7 _ vs7 ea r7 =>
                          have ea7 : a7 = D := by
                            have := EE.at' h1.length a7 (by rw [List.length_append, hm1]; simp) ex7
                            rw [List.getElem?_append_right (by omega), hm1] at this
                            simpa using this.symm
                          subst ea7
                          have l7 : acc.length = vs7.length := Paired.len r7
                          refine ⟨vs7, ea, by omega, m6, h6.set h1.length (.lst (acc ++ [y6])), EE.trans (Ext.store ex7 _ ⟨_, ea, (fun _ _ z => nomatch z), (fun _ z => nomatch z)⟩), S6.store ex7 (.lst upd_same (RepVs.mono (Ext.store ex7 _ ⟨_, ea, (fun _ _ z => nomatch z), (fun _ z => nomatch z)⟩) (Paired.app r7 (.cons r6 .nil)))), e2⟩
                      · rw [if_neg hz] at e2; cases e2
                    | _ => cases e2
  · refine .inl ⟨hJ2.stop m2 h2 H2 i E3 S2 (by omega), ?_⟩
    rw [List.drop_of_length_le (by omega)] at e2
    have e3 : h2 = hE := Option.some.inj e2
    subst e3
    unfold lcEnd at eE
    by_cases hc : h2.length = h1.length + 1 ∧ (h2.take h1.length).all (Cell.below h1.length) = true
    · rw [if_pos hc] at eE
      cases hL : h2[h1.length]? with
      | none => simp only [hL] at eE; cases eE
      | some c6 =>
        simp only [hL] at eE
        cases c6 with
        | lst acc =>
          simp only at eE
          cases ha : allD acc with
          | none => rw [ha] at eE; cases eE
          | some ds =>
            rw [ha] at eE
            cases eE
            obtain ⟨x7, ex7, ok7⟩ := Paired.at_ S2.cell hL
            cases ok7 with
            | @lst a7 _ vs7 ea r7 =>
              have ea7 : a7 = D := by
                have := E3.at' h1.length a7 (by rw [List.length_append, hm1]; simp) ex7
                rw [List.getElem?_append_right (by omega), hm1] at this
                simpa using this.symm
              subst ea7
              have ln : h1.length ≤ m2.length := by rw [← S2.len]; omega
              have Ef : Ext m1 H1 (m2.take m1.length) H2 := (E2.trans E3).cut
              rw [← hm1] at Ef
              refine q9 _ H2 Ef (S2.cut ln hc.2) _ (.lst ⟨ea, fun z => ?_⟩ ((allD_rep r7 ha).sub take_sub))
              obtain ⟨l, el⟩ := List.mem_iff_getElem?.mp z
              have hl : l < h1.length := by
                rcases Nat.lt_or_ge l h1.length with q | q
                · exact q
                · rw [List.getElem?_eq_none (by rw [List.length_take]; omega)] at el; cases el
              rw [List.getElem?_take_of_lt hl] at el
              have := S2.inj l h1.length a7 el ex7
              omega
        | _ => cases eE
    · rw [if_neg hc] at eE; cases eE
/-- .. as a list that will change -/
def lcEndN (n : Nat) (h : AH) : Option (Val × AH) := match h[n]? with
    | some (.lst _) => some (.ref n, h)
    | _ => none
def cLcN (ci : CI) (own : List Nat) (g : CG) (tt : CT) (te : CE) : CE := fun σ => bnd (ci σ) fun xs => lift fun h => (lcL g tt te h.length (wipeA σ own) xs (h ++ [.lst []])).bind (lcEndN h.length)
theorem lc_readN {own : List (Str × Nat)} {σ : L2.St} {H : Hp} {Q : VK} (hns : ∀ i ∈ ns, i ∈ own.map (·.2)) (hn : ∀ x h ups, g x h = some ups → ups.map (·.1) = ns)
    (h : tE X T W (cLcN ci (own.map (·.2)) g ct ce) σ H Q) : tLc (tI X T W ci) (tG X.K T g) (tT X T W0 ct) (tE X T W0 ce) (own.map (·.2)) σ H Q := by
  obtain ⟨m, h0, σa, S, RS, A⟩ := h
  refine ⟨m, h0, σa, S, RS, A.bind.mono fun m1 h1 H1 xs E1 S1 A1 J hJ D hD => ?_⟩
  obtain ⟨z, h9, e9, q9⟩ := A1.lifted
  obtain ⟨hE, eL, eE⟩ := Option.bind_eq_some_iff.mp e9
  have RS1 : RepS X.K m1 H1 (wipeA σa (own.map (·.2))) (wipe σ (own.map (·.2))) := (RS.mono E1).wipe _
  have hm1 : h1.length = m1.length := S1.len
  have E2 : Ext m1 H1 (m1 ++ [some D]) (upd H1 D (.lst [])) := Ext.push S1 hD
  refine ⟨fun i mm H => mm = xs.length - i ∧ ∃ m h, Ext (m1 ++ [some D]) (upd H1 D (.lst [])) m H ∧ Sim X.K T m h H ∧ lcL g ct ce h1.length (wipeA σa (own.map (·.2))) (xs.drop i) h = some hE, ⟨_, rfl, m1 ++ [some D], h1 ++ [.lst []], Ext.refl _ _, S1.push hD .nil, by rw [List.drop_zero]; exact eL⟩, ?_⟩
  rintro i mm H2 ⟨rfl, m2, h2, E3, S2, e2⟩
  have hJ2 : ItOk X.K T (m1 ++ [some D]) (upd H1 D (.lst [])) xs J := hJ.mono E2
  by_cases hi : i < xs.length
  · refine .inr ⟨hJ2.go m2 h2 H2 i E3 S2 hi, fun H' => ∃ m h, Ext (m1 ++ [some D]) (upd H1 D (.lst [])) m H' ∧ Sim X.K T m h H' ∧ lcL g ct ce h1.length (wipeA σa (own.map (·.2))) (xs.drop (i + 1)) h = some hE, fun H' hN => ⟨xs.length - (i + 1), by omega, rfl, hN⟩, fun x H3 y => ?_⟩
    obtain ⟨xa, m3, ex, E4, S3, rx⟩ := hJ2.yld m2 h2 H2 i x H3 E3 S2 hi y
    have hd : xs.drop i = xa :: xs.drop (i + 1) := by
      obtain ⟨hi', e'⟩ := List.getElem?_eq_some_iff.mp ex
      rw [List.drop_eq_getElem_cons hi', e']
    rw [hd] at e2
    unfold lcL at e2
    cases hgx : g xa h2 with
    | none => rw [hgx] at e2; cases e2
    | some ups =>
      simp only [hgx] at e2
      refine ⟨m3, h2, xa, ups, S3, rx, hgx, fun ws hw => ⟨?_, m3, h2, setAll (wipeA σa (own.map (·.2))) ups, S3, ?_, ?_⟩⟩
      · rw [wipe_setAll ws _ fun w hw' => hns _ (by
          have : w.1 ∈ ws.map (·.1) := List.mem_map.mpr ⟨w, hw', rfl⟩
          rw [ups_fst hw, hn _ _ _ hgx] at this
          exact this), wipe_wipe σ _ fun u hu => hu]
      · exact (((RS1.mono E2).mono E3).mono E4).setAll hw
      · cases ht : ct (setAll (wipeA σa (own.map (·.2))) ups) h2 with
        | none => simp only [ht] at e2; cases e2
        | some p5 =>
          obtain ⟨r5, h5⟩ := p5
          simp only [ht] at e2
          cases r5 with
          | exn _ _ => cases e2
          | ok bb =>
            refine ⟨_, _, rfl, fun m5 H5 E5 S5 b' rb => ?_⟩
            subst rb
            cases b' with
            | false =>
              rw [if_neg Bool.false_ne_true]
              exact ⟨m5, h5, (E3.trans E4).trans E5, S5, e2⟩
            | true =>
              rw [if_pos rfl]
              simp only at e2
              refine ⟨m5, h5, setAll (wipeA σa (own.map (·.2))) ups, S5, ((((RS1.mono E2).mono E3).mono E4).setAll hw).mono E5, ?_⟩
              cases he : ce (setAll (wipeA σa (own.map (·.2))) ups) h5 with
              | none => simp only [he] at e2; cases e2
              | some p6 =>
                obtain ⟨r6, h6⟩ := p6
                simp only [he] at e2
                cases r6 with
                | exn _ _ => cases e2
                | ok y6 =>
                  refine ⟨_, _, rfl, fun m6 H6 E6 S6 v6 r6 => ?_⟩
                  simp only at e2
                  cases hL : h6[h1.length]? with
                  | none => simp only [hL] at e2; cases e2
                  | some c6 =>
                    simp only [hL] at e2
                    cases c6 with
                    | lst acc =>
                      simp only at e2
                      by_cases hz : acc.length < sizeLine
                      · rw [if_pos hz] at e2
                        have EE : Ext (m1 ++ [some D]) (upd H1 D (.lst [])) m6 H6 := ((E3.trans E4).trans E5).trans E6
                        obtain ⟨x7, ex7, ok7⟩ := Paired.at_ S6.cell hL
                        cases ok7 with
                        | @lst a7 _ vs7 ea r7 =>
                          have ea7 : a7 = D := by
                            have := EE.at' h1.length a7 (by rw [List.length_append, hm1]; simp) ex7
                            rw [List.getElem?_append_right (by omega), hm1] at this
                            simpa using this.symm
                          subst ea7
                          have l7 : acc.length = vs7.length := Paired.len r7
                          refine ⟨vs7, ea, by omega, m6, h6.set h1.length (.lst (acc ++ [y6])), EE.trans (Ext.store ex7 _ ⟨_, ea, (fun _ _ z => nomatch z), (fun _ z => nomatch z)⟩), S6.store ex7 (.lst upd_same (RepVs.mono (Ext.store ex7 _ ⟨_, ea, (fun _ _ z => nomatch z), (fun _ z => nomatch z)⟩) (Paired.app r7 (.cons r6 .nil)))), e2⟩
                      · rw [if_neg hz] at e2; cases e2
                    | _ => cases e2
  · refine .inl ⟨hJ2.stop m2 h2 H2 i E3 S2 (by omega), ?_⟩
    rw [List.drop_of_length_le (by omega)] at e2
    have e3 : h2 = hE := Option.some.inj e2
    subst e3
    unfold lcEndN at eE
    cases hL : h2[h1.length]? with
    | none => simp only [hL] at eE; cases eE
    | some c6 =>
      simp only [hL] at eE
      cases c6 with
      | lst acc =>
        cases eE
        obtain ⟨x7, ex7, ok7⟩ := Paired.at_ S2.cell hL
        cases ok7 with
        | @lst a7 _ vs7 ea r7 =>
          have ea7 : a7 = D := by
            have := E3.at' h1.length a7 (by rw [List.length_append, hm1]; simp) ex7
            rw [List.getElem?_append_right (by omega), hm1] at this
            simpa using this.symm
          subst ea7
          have hl2 : h1.length < m2.length := (List.getElem?_eq_some_iff.mp ex7).1
          exact q9 m2 H2 (E2.trans E3) S2 _ ⟨hl2, fun a' e' => by rw [ex7] at e'; cases e'; rfl⟩
      | _ => cases eE
/-- a clause's tests -/
structure RTs (X : Cx) (T : Tx) (W : WX) (ifs : List Expr) (c : CT) : Prop where
  pts : PTs X ifs (tT X T W c)
theorem PTs.imp {X : Cx} {e : List Expr} {t t' : TT} (h : PTs X e t) (f : ∀ σ H Q, t' σ H Q → t σ H Q) : PTs X e t' := ⟨fun pins s σ H Q I q => h.run pins s σ H Q I (f _ _ _ q)⟩
theorem rts_nil : RTs X T W [] cYes := ⟨PTs.imp pts_nil fun σ H Q ⟨m, h0, σa, S, RS, A⟩ => Aft.ret_ S A true rfl⟩
theorem rts_one {c : Expr} (h : RT X T W c ct) : RTs X T W [c] ct := ⟨pts_one h.pt⟩
theorem re_lc {scope : Scope} {own : List (Str × Nat)} (C : Cok X W k) (hi : RI X T W tg iter ci) (ok : BlkOk X.N X.env.scope scope own) (hns : ∀ i ∈ ns, i ∈ own.map (·.2))
    (hg : ∀ (s : Shared) (H : Hp) (C : Addr) (cl : List (Str × Addr)) (fp : List Addr), RG (X.blk s H scope (compEnvC scope cl C X.env) fp) T tg ns g) (ht : ∀ (s : Shared) (H : Hp) (C : Addr) (cl : List (Str × Addr)) (fp : List Addr), RTs (X.blk s H scope (compEnvC scope cl C X.env) fp) T W0 ifs ct)
    (he : ∀ (s : Shared) (H : Hp) (C : Addr) (cl : List (Str × Addr)) (fp : List Addr), RE (X.blk s H scope (compEnvC scope cl C X.env) fp) T W0 elt ce) (hs : ∀ x, foldedSetIterable iter X.env x = pure x := by intro _; rfl) :
    RE X T W (.ListComp elt [⟨tg, iter, ifs, 0⟩] scope pos) (cLc ci (own.map (·.2)) g ct ce) :=
  ⟨⟨fun pins s σ H Q I h => (pe_lc C.calm C.nd hi.pi ok (fun s H C cl fp => (hg s H C cl fp).pg) (fun s H C cl fp => (ht s H C cl fp).pts) (fun s H C cl fp => (he s H C cl fp).pe) hs).run pins s σ H Q I (lc_read hns (hg s H 0 [] []).ns h)⟩⟩
theorem rs_setLc {i : Nat} {y : Str} {py spos : Pos} {scope : Scope} {own : List (Str × Nat)} (C : Cok X W k) (hi : RI X T W tg iter ci) (ok : BlkOk X.N X.env.scope scope own) (hns : ∀ i ∈ ns, i ∈ own.map (·.2))
    (hg : ∀ (s : Shared) (H : Hp) (C : Addr) (cl : List (Str × Addr)) (fp : List Addr), RG (X.blk s H scope (compEnvC scope cl C X.env) fp) T tg ns g) (ht : ∀ (s : Shared) (H : Hp) (C : Addr) (cl : List (Str × Addr)) (fp : List Addr), RTs (X.blk s H scope (compEnvC scope cl C X.env) fp) T W0 ifs ct)
    (he : ∀ (s : Shared) (H : Hp) (C : Addr) (cl : List (Str × Addr)) (fp : List Addr), RE (X.blk s H scope (compEnvC scope cl C X.env) fp) T W0 elt ce)
    (hy : X.N[i]? = some y := by rfl) (hyl : X.env.scope.names.lookup y = some .local := by rfl)
    (hsw : swapsWith (.ListComp elt [⟨tg, iter, ifs, 0⟩] scope pos) (some (.Name y py)) spos.line X.env = pure true := by exact sw_true rfl rfl rfl (by decide +kernel)) (hs : ∀ x, foldedSetIterable iter X.env x = pure x := by intro _; rfl) :
    RS X T W (.Assign [.Name y py] (.ListComp elt [⟨tg, iter, ifs, 0⟩] scope pos) spos) (sAsg (gN i) (cLc ci (own.map (·.2)) g ct ce)) :=
  ⟨⟨fun pins s σ H D I h => (ps_setLc C.calm C.nd hy hyl hsw hi.pi ok (fun s H C cl fp => (hg s H C cl fp).pg) (fun s H C cl fp => (ht s H C cl fp).pts) (fun s H C cl fp => (he s H C cl fp).pe) hs).run pins s σ H D I (by
    refine lc_read hns (hg s H 0 [] []).ns (by_tE h fun m h1 H1 σa x v S RS r A => ?_)
    obtain ⟨f, h', e, q⟩ := A
    cases e
    exact q m H1 _ (Ext.refl _ _) S (RS.set i r))⟩⟩
theorem re_lcN {scope : Scope} {own : List (Str × Nat)} (C : Cok X W k) (hi : RI X T W tg iter ci) (ok : BlkOk X.N X.env.scope scope own) (hns : ∀ i ∈ ns, i ∈ own.map (·.2))
    (hg : ∀ (s : Shared) (H : Hp) (C : Addr) (cl : List (Str × Addr)) (fp : List Addr), RG (X.blk s H scope (compEnvC scope cl C X.env) fp) T tg ns g) (ht : ∀ (s : Shared) (H : Hp) (C : Addr) (cl : List (Str × Addr)) (fp : List Addr), RTs (X.blk s H scope (compEnvC scope cl C X.env) fp) T W0 ifs ct)
    (he : ∀ (s : Shared) (H : Hp) (C : Addr) (cl : List (Str × Addr)) (fp : List Addr), RE (X.blk s H scope (compEnvC scope cl C X.env) fp) T W0 elt ce) (hs : ∀ x, foldedSetIterable iter X.env x = pure x := by intro _; rfl) :
    RE X T W (.ListComp elt [⟨tg, iter, ifs, 0⟩] scope pos) (cLcN ci (own.map (·.2)) g ct ce) :=
  ⟨⟨fun pins s σ H Q I h => (pe_lc C.calm C.nd hi.pi ok (fun s H C cl fp => (hg s H C cl fp).pg) (fun s H C cl fp => (ht s H C cl fp).pts) (fun s H C cl fp => (he s H C cl fp).pe) hs).run pins s σ H Q I (lc_readN hns (hg s H 0 [] []).ns h)⟩⟩
theorem rs_setLcN {i : Nat} {y : Str} {py spos : Pos} {scope : Scope} {own : List (Str × Nat)} (C : Cok X W k) (hi : RI X T W tg iter ci) (ok : BlkOk X.N X.env.scope scope own) (hns : ∀ i ∈ ns, i ∈ own.map (·.2))
    (hg : ∀ (s : Shared) (H : Hp) (C : Addr) (cl : List (Str × Addr)) (fp : List Addr), RG (X.blk s H scope (compEnvC scope cl C X.env) fp) T tg ns g) (ht : ∀ (s : Shared) (H : Hp) (C : Addr) (cl : List (Str × Addr)) (fp : List Addr), RTs (X.blk s H scope (compEnvC scope cl C X.env) fp) T W0 ifs ct)
    (he : ∀ (s : Shared) (H : Hp) (C : Addr) (cl : List (Str × Addr)) (fp : List Addr), RE (X.blk s H scope (compEnvC scope cl C X.env) fp) T W0 elt ce)
    (hy : X.N[i]? = some y := by rfl) (hyl : X.env.scope.names.lookup y = some .local := by rfl)
    (hsw : swapsWith (.ListComp elt [⟨tg, iter, ifs, 0⟩] scope pos) (some (.Name y py)) spos.line X.env = pure true := by exact sw_true rfl rfl rfl (by decide +kernel)) (hs : ∀ x, foldedSetIterable iter X.env x = pure x := by intro _; rfl) :
    RS X T W (.Assign [.Name y py] (.ListComp elt [⟨tg, iter, ifs, 0⟩] scope pos) spos) (sAsg (gN i) (cLcN ci (own.map (·.2)) g ct ce)) :=
  ⟨⟨fun pins s σ H D I h => (ps_setLc C.calm C.nd hy hyl hsw hi.pi ok (fun s H C cl fp => (hg s H C cl fp).pg) (fun s H C cl fp => (ht s H C cl fp).pts) (fun s H C cl fp => (he s H C cl fp).pe) hs).run pins s σ H D I (by
    refine lc_readN hns (hg s H 0 [] []).ns (by_tE h fun m h1 H1 σa x v S RS r A => ?_)
    obtain ⟨f, h', e, q⟩ := A
    cases e
    exact q m H1 _ (Ext.refl _ _) S (RS.set i r))⟩⟩
end
end MV
namespace MV
open PySem PySem.Spec PyProof.Rows L2

/-! ### defs -/
def shut (n : Nat) (v : Val) (h : AH) : AH := if v.below n = true ∧ (h.take n).all (Cell.below n) = true then h.take n else h
def cDef (n : Nat) (cb : CS) : List Val → M Val := fun as h => match cb (as.map some ++ List.replicate (n - as.length) none) h with
  | some (.nx _, h1) => some (.ok (.d .none), shut h.length (.d .none) h1)
  | some (.rt v, h1) => some (.ok v, shut h.length v h1)
  | some (.ex _ nm fs, h1) => some (.exn nm fs, h1)
  | _ => none
def spF (K : PySem.W.Frag) (T : Tx) (n : Nat) (c : List Val → M Val) : Sp := fun vs H Q E => ∃ m h as, Sim K T m h H ∧ RepVs K m H as vs ∧ vs.length = n ∧ Aft K T E m H (c as h) (fun m' _ H' x => ∀ v, RepV K m' H' x v → Q v H')
abbrev FOk (P : Program) (w : World) (K : PySem.W.Frag) (T : Tx) (mg : Str → Option Value) (base : Heap) (k : Nat) (f : Addr) (fd : FuncData) (ps : List Str) (c : List Val → M Val) : Prop := FnOk P w K mg base (L2.CX P w) k f fd ps (spF K T ps.length c)
theorem shut_ok {K T m h H m1 h1 H1} {v : Val} {w : V} (S : Sim K T m h H) (E : Ext m H m1 H1) (S1 : Sim K T m1 h1 H1) (r : RepV K m1 H1 v w) : ∃ m2, Ext m H m2 H1 ∧ Sim K T m2 (shut h.length v h1) H1 ∧ RepV K m2 H1 v w := by
  unfold shut
  by_cases hc : v.below h.length = true ∧ (h1.take h.length).all (Cell.below h.length) = true
  · rw [if_pos hc]
    have ln : h.length ≤ m1.length := by rw [S.len]; exact E.len
    have Ec := E.cut
    rw [← S.len] at Ec
    exact ⟨_, Ec, S1.cut ln hc.2, r.cut ln hc.1⟩
  · rw [if_neg hc]
    exact ⟨m1, E, S1, r⟩
theorem start_rep {K m H} {n : Nat} {as : List Val} {vs : List V} (r : RepVs K m H as vs) : RepS K m H (as.map some ++ List.replicate (n - as.length) none) (vs.map some ++ List.replicate (n - vs.length) none) := by
  have hl := Paired.len r
  rw [hl]
  refine Paired.app ?_ ?_
  · have go : ∀ {as : List Val} {vs : List V}, RepVs K m H as vs → RepS K m H (as.map some) (vs.map some) := by
      intro as vs r
      induction r with
      | nil => exact .nil
      | cons q t ih => exact .cons (fun a ea => by cases ea; exact ⟨_, rfl, q⟩) ih
    exact go r
  · have go : ∀ j : Nat, RepS K m H (List.replicate j none) (List.replicate j none) := by
      intro j
      induction j with
      | zero => exact .nil
      | succ j ih => exact .cons (fun a ea => by cases ea) ih
    exact go _
section
variable {P : Program} {w : World} {K : PySem.W.Frag} {T : Tx} {mg : Str → Option Value} {base : Heap}
theorem cok_fn {N ps : List Str} {qual : Str} {scope : Scope} {f : Addr} {cd : Value} {A : Around} {outer : List Env} {s : Shared} {H : Hp} {E : XK} {k : Nat} (S : FnScope N ps scope) (hr : Room k (A.deeper (envOfC qual scope s.heap.objs.size f cd))) :
    Cok (cxOf (L2.CX P w) P w K mg base N qual scope f cd A outer s H E) (fun cls d _ H => E cls d H) k := ⟨rfl, hr, takes_of rfl rfl rfl rfl, passes_of rfl, S.nd⟩
theorem fok {x qual : Str} {st : Stmt} {f : Addr} {fd : FuncData} {N ps : List Str} {k : Nat} {cb : CS} (F : Fun K x qual st f fd) (S : FnScope N ps (defScope st))
    (hb : ∀ (cdv : Value) (A : Around) (outer : List Env) (s : Shared) (H : Hp) (E : XK), Cok (cxOf (L2.CX P w) P w K mg base N qual (defScope st) f cdv A outer s H E) (fun cls d _ H => E cls d H) k →
      RSs (cxOf (L2.CX P w) P w K mg base N qual (defScope st) f cdv A outer s H E) T (fun cls d _ H => E cls d H) (defBody st) cb) : FOk P w K T mg base (k + 1) f fd ps (cDef N.length cb) := by
  refine F.okX S (fun vs H Q E h => ?_) (fun cdv A outer s H vs Q E hr h => ?_)
  · obtain ⟨m, h, as, _, _, hl, _⟩ := h
    exact hl
  · obtain ⟨m, h, as, Sm, r, hl, A1⟩ := h
    refine ⟨_, (hb cdv A outer s H E (cok_fn S hr)).pss, m, h, _, Sm, start_rep (n := N.length) r, ?_⟩
    obtain ⟨o, h', e, q⟩ := A1
    unfold cDef at e
    cases hc : cb (as.map some ++ List.replicate (N.length - as.length) none) h with
    | none => rw [hc] at e; cases e
    | some p =>
      obtain ⟨f1, h1⟩ := p
      rw [hc] at e
      cases f1 with
      | nx σ1 =>
        cases e
        refine ⟨_, _, rfl, fun m' H' σ' E' S' R' => ?_⟩
        obtain ⟨m2, E2, S2, r2⟩ := shut_ok Sm E' S' (v := .d .none) (w := .non) .non
        exact q m2 H' E2 S2 _ r2
      | rt v1 =>
        cases e
        refine ⟨_, _, rfl, fun m' H' v E' S' R' => ?_⟩
        obtain ⟨m2, E2, S2, r2⟩ := shut_ok Sm E' S' R'
        exact q m2 H' E2 S2 _ r2
      | ex s1 n fs =>
        cases e
        exact ⟨_, _, rfl, fun m' H' σ' cls d E' S' R' z => q m' H' cls d E' S' z⟩
      | bk _ => cases e
      | ct _ => cases e
end
/-- a def of the text: where it stands, how it is called -/
structure Df (K : PySem.W.Frag) (mg : Str → Option Value) (x : Str) (st : Stmt) (ps : List Str) (f : Addr) (fd : FuncData) : Prop where
  F : Fun K x x st f fd
  g : mg x = some (.ref f)
  b : Binds K fd ps []
def cCall (n : Nat) (c : List Val → M Val) (a : CA) : CE := fun σ => bnd (a σ) fun xs => if xs.length = n then c xs else fun _ => none
section
variable {X : Cx} {T : Tx} {W : WX} {j k : Nat} {e : Expr} {es : List Expr} {x : Str} {st : Stmt} {p pos : Pos} {f : Addr} {fd : FuncData} {ps : List Str} {c : List Val → M Val} {ca : CA}
theorem re_call {n : Nat} (D : Df X.K X.mg x st ps f fd) (F : FOk X.prog X.w X.K T X.mg X.base j f fd ps c) (C : Cok X W k) (hg : Gl X x) (ha : RA X T W (e :: es) ca) (hk : j ≤ k := by decide) (hn : ps.length = n := by rfl) (hdb : (x == ("__debug__" : Str)) = false := by decide)
    (he : starEach (e :: es) X.env = (false, eval e X.env) :: starEach es X.env := by rfl) (hpl : (backTo pos (starEach es X.env)).any (·.1) = false := by rfl) : RE X T W (.Call (.Name x p) (e :: es) [] pos) (cCall n c ca) :=
  ⟨PE.imp (pe_callS F (C.room.mono hk) hg D.g D.F.kp D.b (fun σ => passAt C.tk σ) ha.pa hdb he hpl) fun σ H Q ⟨m, h, σa, S, RS, A⟩ => ⟨m, h, σa, S, RS, A.bind.mono fun m1 h1 H1 xs E1 S1 A1 vs rs => by
    subst hn
    by_cases hl : xs.length = ps.length
    · rw [if_pos hl] at A1
      exact ⟨m1, h1, xs, S1, rs, (Paired.len rs).symm.trans hl, A1⟩
    · rw [if_neg hl] at A1
      obtain ⟨_, _, e, _⟩ := A1
      cases e⟩⟩
end
/-! ### the end -/
theorem cx_none {P : Program} {w : World} {l : List Env} {H : Hp} {s : Shared} {e : Value} {s' : Shared} (h : L2.CX P w l H s (fun _ _ _ => False) e s') : False := by
  obtain ⟨_, _, _, _, _, _, _, _, _, _, _, _, z⟩ := h
  exact z.elim
theorem rpl_ints {K m H} : ∀ ns : List Int, RpL K m H (ns.map .int) (ns.map V.int)
  | [] => .nil
  | n :: ns => .cons (.int n) (rpl_ints ns)
theorem law_sp {K : PySem.W.Frag} {T : Tx} {c : List Val → M Val} (hT : T.tabs = []) (hc : ∀ ns : List Int, ns.length ≤ 63 → ∃ h', c [.fl (ns.map .int)] [] = some (.ok (.d (.bool true)), h')) {H : Hp} {a : Addr} {ns : List Int} (hl : ns.length ≤ 63) (hS : SqL K H a (ns.map V.int)) :
    spF K T 1 c [.ref a] H (fun v _ => v = .bl true) fun _ _ _ => False := by
  obtain ⟨h', e⟩ := hc ns hl
  refine ⟨[], [], [.fl (ns.map .int)], ⟨.nil, fun l l' a e => by simp at e, fun P hP => by rw [hT] at hP; simp at hP⟩, .cons ⟨a, _, rfl, hS.elim (fun q => .inl ⟨q, by simp⟩) .inr, rpl_ints ns⟩ .nil, rfl, _, _, e, fun m' H' E S v r => ?_⟩
  cases (show Rp K m' H' (.bool true) v from r)
  rfl
end MV
namespace MV
open PySem PySem.Spec PyProof.Rows L2

section
variable {X : Cx} {T : Tx} {W : WX}
/-! ### operators over ints -/
def dI (c : Int → Int → Bool) (g : Int → Int → PyData) : PyData → PyData → Option PyData
  | .int i, .int j => if c i j = true then some (g i j) else none
  | _, _ => none
theorem dI_some {c g a b z} (e : dI c g a b = some z) : ∃ i j, a = .int i ∧ b = .int j ∧ c i j = true ∧ z = g i j := by
  unfold dI at e
  split at e
  · rename_i i j
    by_cases h : c i j = true
    · rw [if_pos h] at e; cases e; exact ⟨i, j, rfl, rfl, h, rfl⟩
    · rw [if_neg h] at e; cases e
  · cases e
theorem opr_I {f : Value → Value → Sem Value} {C : Int → Int → Prop} {c : Int → Int → Bool} {g : Int → Int → PyData} {g0 : Int → Int → V} (ho : OpR X f (rI C g0)) (hc : ∀ i j, c i j = true → C i j) (hg : ∀ m H i j, Rp X.K m H (g i j) (g0 i j)) : OpR X f (rP X.K T (gD (dI c g))) := by
  intro pins s σ H x y v u Q I rx ry h
  obtain ⟨m, h0, a, b, z, h', S, ra, rb, e, q⟩ := h
  obtain ⟨d1, d2, d3, e1, e2, e3, rfl, rfl⟩ := gD_some e
  obtain ⟨i, j, rfl, rfl, h1, rfl⟩ := dI_some e3
  cases view_int S ra e1
  cases view_int S rb e2
  exact ho pins s σ H _ _ v u Q I rx ry ⟨i, j, rfl, rfl, hc i j h1, q m H (Ext.refl _ _) S _ (hg m H i j)⟩
theorem opr_I0 {f : Value → Value → Sem Value} {g : Int → Int → PyData} {g0 : Int → Int → V} (ho : OpR X f (rI0 g0)) (hg : ∀ m H i j, Rp X.K m H (g i j) (g0 i j)) : OpR X f (rP X.K T (gD (dI (fun _ _ => true) g))) := by
  intro pins s σ H x y v u Q I rx ry h
  obtain ⟨m, h0, a, b, z, h', S, ra, rb, e, q⟩ := h
  obtain ⟨d1, d2, d3, e1, e2, e3, rfl, rfl⟩ := gD_some e
  obtain ⟨i, j, rfl, rfl, h1, rfl⟩ := dI_some e3
  cases view_int S ra e1
  cases view_int S rb e2
  exact ho pins s σ H _ _ v u Q I rx ry ⟨i, j, rfl, rfl, q m H (Ext.refl _ _) S _ (hg m H i j)⟩
abbrev yes2 : Int → Int → Bool := fun _ _ => true
def dSub := dI yes2 fun i j => .int (i - j)
def dMul := dI (fun i j => decide ((-(2 ^ 64) < i ∧ i < 2 ^ 64) ∨ (-(2 ^ 64) < j ∧ j < 2 ^ 64))) fun i j => .int (i * j)
def dFdiv := dI (fun i j => decide (0 < j ∧ j < 1073741824)) fun i j => .int (i / j)
def dMod := dI (fun i j => decide (0 < j)) fun i j => .int (i % j)
def dPow := dI (fun i j => decide (0 ≤ j ∧ j ≤ 1000000 ∧ i.natAbs < 2 ^ 64)) fun i j => .int (i ^ j.toNat)
def dShl := dI (fun i j => decide (0 ≤ j ∧ j ≤ 1000000 ∧ i.natAbs < 2 ^ 64)) fun i j => .int (i * 2 ^ j.toNat)
def dShr := dI (fun i j => decide (0 ≤ j)) fun i j => .int (i / 2 ^ j.toNat)
def dAnd := dI yes2 fun i j => .int (Builtin.bitAnd i j)
def dXor := dI yes2 fun i j => .int (Builtin.bitXor i j)
theorem o_sub : OpR X (binaryOp .Sub) (rP X.K T (gD dSub)) := opr_I0 op_sub fun _ _ _ _ => .int _
theorem o_mul : OpR X (binaryOp .Mult) (rP X.K T (gD dMul)) := opr_I op_mul (fun _ _ h => by simp only [decide_eq_true_eq] at h; exact h) fun _ _ _ _ => .int _
theorem o_fdiv : OpR X (binaryOp .FloorDiv) (rP X.K T (gD dFdiv)) := opr_I op_fdiv (fun _ _ h => by simp only [decide_eq_true_eq] at h; exact h) fun _ _ _ _ => .int _
theorem o_mod : OpR X (binaryOp .Mod) (rP X.K T (gD dMod)) := opr_I op_mod (fun _ _ h => by simp only [decide_eq_true_eq] at h; exact h) fun _ _ _ _ => .int _
theorem o_pow : OpR X (binaryOp .Pow) (rP X.K T (gD dPow)) := opr_I op_pow (fun _ _ h => by simp only [decide_eq_true_eq] at h; exact h) fun _ _ _ _ => .int _
theorem o_shl : OpR X (binaryOp .LShift) (rP X.K T (gD dShl)) := opr_I op_shl (fun _ _ h => by simp only [decide_eq_true_eq] at h; exact h) fun _ _ _ _ => .int _
theorem o_shr : OpR X (binaryOp .RShift) (rP X.K T (gD dShr)) := opr_I op_shr (fun _ _ h => by simp only [decide_eq_true_eq] at h; exact h) fun _ _ _ _ => .int _
theorem o_and : OpR X (binaryOp .BitAnd) (rP X.K T (gD dAnd)) := opr_I0 op_and fun _ _ _ _ => .int _
theorem o_xor : OpR X (binaryOp .BitXor) (rP X.K T (gD dXor)) := opr_I0 op_xor fun _ _ _ _ => .int _
def dLt := dI yes2 fun i j => .bool (decide (i < j))
def dLe := dI yes2 fun i j => .bool (decide (i ≤ j))
def dGt := dI yes2 fun i j => .bool (decide (j < i))
def dGe := dI yes2 fun i j => .bool (decide (j ≤ i))
theorem o_lt : OpR X (compareOp .Lt) (rP X.K T (gD dLt)) := opr_I0 op_lt fun _ _ _ _ => .bl _
theorem o_le : OpR X (compareOp .LtE) (rP X.K T (gD dLe)) := opr_I0 op_le fun _ _ _ _ => .bl _
theorem o_gt : OpR X (compareOp .Gt) (rP X.K T (gD dGt)) := opr_I0 op_gt fun _ _ _ _ => .bl _
theorem o_ge : OpR X (compareOp .GtE) (rP X.K T (gD dGe)) := opr_I0 op_ge fun _ _ _ _ => .bl _
/-! ### + -/
def dAdd : PyData → PyData → Option PyData
  | .int i, .int j => some (.int (i + j))
  | .tuple xs, .tuple ys => if xs.length + ys.length ≤ sizeLine then some (.tuple (xs ++ ys)) else none
  | .list xs, .list ys => if xs.length + ys.length ≤ sizeLine then some (.list (xs ++ ys)) else none
  | .str x, .str y => if x.length + y.length ≤ sizeLine then some (.str (x ++ y)) else none
  | _, _ => none
/-- lists of ours alone -/
def gDM (f : PyData → PyData → Option PyData) : G2 := fun x y h => match viewM x h, viewM y h with
  | some a, some b => (f a b).map fun z => (.d z, h)
  | _, _ => none
theorem gDM_some {f : PyData → PyData → Option PyData} {x y z : Val} {h h' : AH} (e : gDM f x y h = some (z, h')) : ∃ a b c, viewM x h = some a ∧ viewM y h = some b ∧ f a b = some c ∧ z = .d c ∧ h' = h := by
  unfold gDM at e
  cases p : viewM x h with
  | none => rw [p] at e; cases e
  | some a =>
    cases q : viewM y h with
    | none => rw [p, q] at e; cases e
    | some b =>
      rw [p, q] at e
      cases r : f a b with
      | none => simp only [r] at e; cases e
      | some c => simp only [r] at e; cases e; exact ⟨a, b, c, rfl, rfl, r, rfl, rfl⟩
theorem o_add : OpR X (binaryOp .Add) (rP X.K T (gDM dAdd)) := by
  intro pins s σ H x y v u Q I rx ry h
  obtain ⟨m, h0, a, b, z, h', S, ra, rb, e, q⟩ := h
  obtain ⟨d1, d2, d3, e1, e2, e3, rfl, rfl⟩ := gDM_some e
  unfold dAdd at e3
  split at e3
  · cases e3
    cases view_int S ra (viewM_D e1)
    cases view_int S rb (viewM_D e2)
    exact op_add pins s σ H _ _ v u Q I rx ry ⟨_, _, rfl, rfl, q m H (Ext.refl _ _) S _ (.int _)⟩
  · rename_i xs ys
    by_cases hz : xs.length + ys.length ≤ sizeLine
    · rw [if_pos hz] at e3; cases e3
      obtain ⟨p, vs, rfl, hp, tp⟩ := view_tup S ra (viewM_D e1)
      obtain ⟨p2, vs2, rfl, hp2, tp2⟩ := view_tup S rb (viewM_D e2)
      refine op_catA pins s σ H _ _ v u Q I rx ry ⟨p, p2, vs, vs2, rfl, rfl, hp.sq, hp2.sq, by rw [← tp.length, ← tp2.length]; exact hz, fun h1 => ?_, fun h1 h2 => ?_, fun h1 h2 p3 hp3 => ?_⟩
      · subst h1
        cases tp
        exact q m H (Ext.refl _ _) S _ (.tup hp2 tp2)
      · subst h2
        cases tp2
        rw [List.append_nil] at q
        exact q m H (Ext.refl _ _) S _ (.tup hp tp)
      · exact q m _ (Ext.new S hp3) (S.new hp3) _ (rp_newT S hp3 (tp.append tp2))
    · rw [if_neg hz] at e3; cases e3
  · rename_i xs ys
    by_cases hz : xs.length + ys.length ≤ sizeLine
    · rw [if_pos hz] at e3; cases e3
      obtain ⟨p, vs, rfl, hp, tp⟩ := viewM_list S ra e1
      obtain ⟨p2, vs2, rfl, hp2, tp2⟩ := viewM_list S rb e2
      refine op_cat pins s σ H _ _ v u Q I rx ry ⟨p, p2, vs, vs2, rfl, rfl, hp, hp2, by rw [← tp.length, ← tp2.length]; exact hz, fun p3 hp3 => ?_⟩
      exact q m _ (Ext.new S hp3) (S.new hp3) _ (rp_newL S hp3 (tp.append tp2))
    · rw [if_neg hz] at e3; cases e3
  · rename_i x1 y1
    by_cases hz : x1.length + y1.length ≤ sizeLine
    · rw [if_pos hz] at e3; cases e3
      cases view_str S ra (viewM_D e1)
      cases view_str S rb (viewM_D e2)
      exact op_add_str pins s σ H _ _ v u Q I rx ry ⟨_, _, rfl, rfl, hz, q m H (Ext.refl _ _) S _ (.str _)⟩
    · rw [if_neg hz] at e3; cases e3
  · cases e3
/-! ### == -/
def dEq (a b : PyData) : Option PyData := if SeqAt.shaped a = true ∧ SeqAt.shaped b = true then some (.bool (PyData.eqv a b)) else none
def dNe (a b : PyData) : Option PyData := if SeqAt.shaped a = true ∧ SeqAt.shaped b = true then some (.bool (!PyData.eqv a b)) else none
theorem o_eq (hu : X.A.units + 64 < cLine) : OpR X (compareOp .Eq) (rP X.K T (gD dEq)) := by
  intro pins s σ H x y v u Q I rx ry h
  obtain ⟨m, h0, a, b, z, h', S, ra, rb, e, q⟩ := h
  obtain ⟨d1, d2, d3, e1, e2, e3, rfl, rfl⟩ := gD_some e
  unfold dEq at e3
  by_cases hs : SeqAt.shaped d1 = true ∧ SeqAt.shaped d2 = true
  · rw [if_pos hs] at e3; cases e3
    exact op_eqD hu pins s σ H _ _ v u Q I rx ry ⟨d1, d2, view_dp S ra e1, view_dp S rb e2, hs.1, hs.2, q m H (Ext.refl _ _) S _ (.bl _)⟩
  · rw [if_neg hs] at e3; cases e3
theorem o_ne (hu : X.A.units + 64 < cLine) : OpR X (compareOp .NotEq) (rP X.K T (gD dNe)) := by
  intro pins s σ H x y v u Q I rx ry h
  obtain ⟨m, h0, a, b, z, h', S, ra, rb, e, q⟩ := h
  obtain ⟨d1, d2, d3, e1, e2, e3, rfl, rfl⟩ := gD_some e
  unfold dNe at e3
  by_cases hs : SeqAt.shaped d1 = true ∧ SeqAt.shaped d2 = true
  · rw [if_pos hs] at e3; cases e3
    exact op_neD hu pins s σ H _ _ v u Q I rx ry ⟨d1, d2, view_dp S ra e1, view_dp S rb e2, hs.1, hs.2, q m H (Ext.refl _ _) S _ (.bl _)⟩
  · rw [if_neg hs] at e3; cases e3
/-! ### in -/
def dIn (neg : Bool) : PyData → PyData → Option PyData
  | d, .list ds => if SeqAt.shaped d = true ∧ SeqAt.shaped (.list ds) = true then some (.bool (if neg = true then !ds.any fun z => PyData.eqv z d else ds.any fun z => PyData.eqv z d)) else none
  | d, .tuple ds => if SeqAt.shaped d = true ∧ SeqAt.shaped (.tuple ds) = true then some (.bool (if neg = true then !ds.any fun z => PyData.eqv z d else ds.any fun z => PyData.eqv z d)) else none
  | _, _ => none
theorem o_in (hu : X.A.units + 65 < cLine) : OpR X (compareOp .In) (rP X.K T (gD (dIn false))) := by
  intro pins s σ H x y v u Q I rx ry h
  obtain ⟨m, h0, a, b, z, h', S, ra, rb, e, q⟩ := h
  obtain ⟨d1, d2, d3, e1, e2, e3, rfl, rfl⟩ := gD_some e
  unfold dIn at e3
  split at e3
  · rename_i ds
    by_cases hs : SeqAt.shaped d1 = true ∧ SeqAt.shaped (.list ds) = true
    · rw [if_pos hs, if_neg Bool.false_ne_true] at e3; cases e3
      exact op_inD hu pins s σ H _ _ v u Q I rx ry ⟨d1, ds, view_dp S ra e1, view_dp S rb e2, hs.1, hs.2, q m H (Ext.refl _ _) S _ (.bl _)⟩
    · rw [if_neg hs] at e3; cases e3
  · rename_i ds
    by_cases hs : SeqAt.shaped d1 = true ∧ SeqAt.shaped (.tuple ds) = true
    · rw [if_pos hs, if_neg Bool.false_ne_true] at e3; cases e3
      obtain ⟨as, r1⟩ := Dp.reads I d1 x v (view_dp S ra e1) rx
      obtain ⟨bs, r2⟩ := Dp.reads I (.tuple ds) y u (view_dp S rb e2) ry
      exact SeqAt.in_tuple_reads r2 r1 (SeqAt.canLay_of_shaped hs.2) (SeqAt.canLay_of_shaped hs.1) (room_in_shaped hs.1 hu) ⟨.bl _, H, I, rfl, q m H (Ext.refl _ _) S _ (.bl _)⟩
    · rw [if_neg hs] at e3; cases e3
  · cases e3
theorem o_notIn (hu : X.A.units + 65 < cLine) : OpR X (compareOp .NotIn) (rP X.K T (gD (dIn true))) := by
  intro pins s σ H x y v u Q I rx ry h
  obtain ⟨m, h0, a, b, z, h', S, ra, rb, e, q⟩ := h
  obtain ⟨d1, d2, d3, e1, e2, e3, rfl, rfl⟩ := gD_some e
  unfold dIn at e3
  split at e3
  · rename_i ds
    by_cases hs : SeqAt.shaped d1 = true ∧ SeqAt.shaped (.list ds) = true
    · rw [if_pos hs, if_pos rfl] at e3; cases e3
      exact op_notInD hu pins s σ H _ _ v u Q I rx ry ⟨d1, ds, view_dp S ra e1, view_dp S rb e2, hs.1, hs.2, q m H (Ext.refl _ _) S _ (.bl _)⟩
    · rw [if_neg hs] at e3; cases e3
  · rename_i ds
    by_cases hs : SeqAt.shaped d1 = true ∧ SeqAt.shaped (.tuple ds) = true
    · rw [if_pos hs, if_pos rfl] at e3; cases e3
      obtain ⟨as, r1⟩ := Dp.reads I d1 x v (view_dp S ra e1) rx
      obtain ⟨bs, r2⟩ := Dp.reads I (.tuple ds) y u (view_dp S rb e2) ry
      exact SeqAt.notIn_tuple_reads r2 r1 (SeqAt.canLay_of_shaped hs.2) (SeqAt.canLay_of_shaped hs.1) (room_in_shaped hs.1 hu) ⟨.bl _, H, I, rfl, q m H (Ext.refl _ _) S _ (.bl _)⟩
    · rw [if_neg hs] at e3; cases e3
  · cases e3
end
end MV
namespace MV
open PySem PySem.Spec PyProof.Rows L2

theorem b_len : bootBuiltins "len" = some (.builtin "len") := by decide +kernel
theorem b_int : bootBuiltins "int" = some (.type "int") := by decide +kernel
theorem b_list : bootBuiltins "list" = some (.type "list") := by decide +kernel
theorem b_tuple : bootBuiltins "tuple" = some (.type "tuple") := by decide +kernel
theorem b_bool : bootBuiltins "bool" = some (.type "bool") := by decide +kernel
theorem b_str : bootBuiltins "str" = some (.type "str") := by decide +kernel
theorem b_dict : bootBuiltins "dict" = some (.type "dict") := by decide +kernel
theorem b_isinstance : bootBuiltins "isinstance" = some (.builtin "isinstance") := by decide +kernel
theorem b_sorted : bootBuiltins "sorted" = some (.builtin "sorted") := by decide +kernel
theorem b_sum : bootBuiltins "sum" = some (.builtin "sum") := by decide +kernel
theorem b_min : bootBuiltins "min" = some (.builtin "min") := by decide +kernel
theorem b_max : bootBuiltins "max" = some (.builtin "max") := by decide +kernel

/-- ints of data -/
def intsOf : List PyData → Option (List Int)
  | [] => some []
  | .int i :: r => (intsOf r).map (i :: ·)
  | _ :: _ => none
theorem intsOf_map : ∀ ns : List Int, intsOf (ns.map .int) = some ns
  | [] => rfl
  | n :: ns => by show (intsOf (ns.map .int)).map (n :: ·) = _; rw [intsOf_map ns]; rfl
theorem intsOf_some : ∀ {ds : List PyData} {ns : List Int}, intsOf ds = some ns → ds = ns.map .int
  | [], ns, e => by cases e; rfl
  | .int i :: r, ns, e => by
    unfold intsOf at e
    cases q : intsOf r with
    | none => rw [q] at e; cases e
    | some ms => rw [q] at e; cases e; rw [intsOf_some q]; rfl
  | .none :: _, _, e => by cases e
  | .bool _ :: _, _, e => by cases e
  | .str _ :: _, _, e => by cases e
  | .list _ :: _, _, e => by cases e
  | .tuple _ :: _, _, e => by cases e
  | .dict _ :: _, _, e => by cases e
theorem rpl_intV {K m H} : ∀ {ns : List Int} {vs : List V}, RpL K m H (ns.map .int) vs → vs = ns.map V.int
  | [], _, .nil => rfl
  | n :: ns, _, .cons h t => by cases h; rw [rpl_intV t]; rfl

section
variable {X : Cx} {T : Tx} {W : WX} {k : Nat} {a b c e o i : Expr} {es : List Expr} {pos p p2 p3 apos cpos : Pos} {ce ca cb co ci : CE} {cr : CA}
/-! ### calls of built-ins by one value -/
/-- one value, read -/
def g1 (f : PyData → Option PyData) : GA := fun xs h => match xs with
  | [x] => match viewD x h with
    | some d => (f d).map fun z => (.d z, h)
    | none => none
  | _ => none
theorem g1_some {f : PyData → Option PyData} {xs : List Val} {h h' : AH} {z : Val} (e : g1 f xs h = some (z, h')) : ∃ x d c, xs = [x] ∧ viewD x h = some d ∧ f d = some c ∧ z = .d c ∧ h' = h := by
  unfold g1 at e
  split at e
  · rename_i x
    cases q : viewD x h with
    | none => simp only [q] at e; cases e
    | some d =>
      simp only [q] at e
      cases r : f d with
      | none => rw [r] at e; cases e
      | some c => rw [r] at e; cases e; exact ⟨x, d, c, rfl, q, r, rfl, rfl⟩
  · cases e
theorem g1_ok {f : PyData → Option PyData} {x : Val} {h : AH} {d c : PyData} (q : viewD x h = some d) (r : f d = some c) : g1 f [x] h = some (.d c, h) := by
  show (match viewD x h with
    | some d => (f d).map fun z => (Val.d z, h)
    | none => none) = _
  rw [q]; simp only [r]; rfl
theorem paired1 {α β : Type} {F : α → β → Prop} {x : α} {vs : List β} (h : Paired F [x] vs) : ∃ v, vs = [v] ∧ F x v := by
  cases h with
  | cons r t => cases t; exact ⟨_, rfl, r⟩
/-- a rule for one value -/
theorem cr1 {f : Value} {g : PyData → Option PyData} (h : ∀ (pins : List (Addr × Obj)) (s : Shared) (σ : L2.St) (H : Hp) (v : V) (u : Value) (Q : VK) (m : MM) (h0 : AH) (x : Val) (d z : PyData), Inv X pins σ H s → RelV v u → Sim X.K T m h0 H → RepV X.K m H x v → viewD x h0 = some d → g d = some z →
    (∀ m' H', Ext m H m' H' → Sim X.K T m' h0 H' → ∀ w, Rp X.K m' H' z w → Q w H') → wpAny (model X.prog X.w) X.A (call f [u]) (EP X pins σ Q) X.xe s) : CallR X f (rA X.K T (g1 g)) := by
  intro pins s σ H vs us Q I r hh
  obtain ⟨m, h0, xs, z, h', S, rv, e, q⟩ := hh
  obtain ⟨x, d, c, rfl, e1, e2, rfl, rfl⟩ := g1_some e
  obtain ⟨v, rfl, rx⟩ := paired1 rv
  obtain ⟨u, rfl, ru⟩ := vals1 r
  exact h pins s σ H v u Q m h' x d c I ru S rx e1 e2 q
def fLen : PyData → Option PyData
  | .list ds => some (.int ds.length)
  | .tuple ds => some (.int ds.length)
  | .str z => if z.length ≤ sizeLine then some (.int z.length) else none
  | _ => none
theorem k_len : CallR X (.builtin "len") (rA X.K T (g1 fLen)) := cr1 fun pins s σ H v u Q m h0 x d z I ru S rx e1 e2 q => by
  unfold fLen at e2
  split at e2
  · cases e2
    obtain ⟨a, vs, rfl, hs, t⟩ := view_list S rx e1
    refine call_len_seq pins s σ H [_] [u] Q I (.cons ru .nil) ⟨a, vs, rfl, .inl hs, ?_⟩
    rw [← t.length]
    exact q m H (Ext.refl _ _) S _ (.int _)
  · cases e2
    obtain ⟨a, vs, rfl, hs, t⟩ := view_tup S rx e1
    refine call_len_seq pins s σ H [_] [u] Q I (.cons ru .nil) ⟨a, vs, rfl, .inr hs.sq, ?_⟩
    rw [← t.length]
    exact q m H (Ext.refl _ _) S _ (.int _)
  · rename_i z0
    by_cases hz : z0.length ≤ sizeLine
    · rw [if_pos hz] at e2; cases e2
      cases view_str S rx e1
      exact call_len_str pins s σ H [_] [u] Q I (.cons ru .nil) ⟨z0, rfl, hz, q m H (Ext.refl _ _) S _ (.int _)⟩
    · rw [if_neg hz] at e2; cases e2
  · cases e2
def fInt : PyData → Option PyData
  | .int i => some (.int i)
  | .bool b => some (.int (if b = true then 1 else 0))
  | _ => none
theorem k_int : CallR X (.type "int") (rA X.K T (g1 fInt)) := cr1 fun pins s σ H v u Q m h0 x d z I ru S rx e1 e2 q => by
  unfold fInt at e2
  split at e2
  · cases e2
    cases view_int S rx e1
    exact call_int1 pins s σ H [_] [u] Q I (.cons ru .nil) (.inl ⟨_, rfl, q m H (Ext.refl _ _) S _ (.int _)⟩)
  · cases e2
    cases view_bl S rx e1
    exact call_int1 pins s σ H [_] [u] Q I (.cons ru .nil) (.inr ⟨_, rfl, q m H (Ext.refl _ _) S _ (.int _)⟩)
  · cases e2
def fSum : PyData → Option PyData
  | .list ds => (intsOf ds).map fun ns => .int ns.sum
  | _ => none
theorem k_sum (hc : X.calm = true) : CallR X (.builtin "sum") (rA X.K T (g1 fSum)) := cr1 fun pins s σ H v u Q m h0 x d z I ru S rx e1 e2 q => by
  unfold fSum at e2
  split at e2
  · rename_i ds
    cases hn : intsOf ds with
    | none => rw [hn] at e2; cases e2
    | some ns =>
      rw [hn] at e2; cases e2
      obtain ⟨a, vs, rfl, hs, t⟩ := view_list S rx e1
      rw [intsOf_some hn] at t
      rw [rpl_intV t] at hs
      exact cr_sum hc pins s σ H [_] [u] Q I (.cons ru .nil) ⟨a, ns, rfl, hs, q m H (Ext.refl _ _) S _ (.int _)⟩
  · cases e2
def fTup : PyData → Option PyData
  | .list ds => some (.tuple ds)
  | .tuple ds => some (.tuple ds)
  | _ => none
theorem k_tuple : CallR X (.type "tuple") (rA X.K T (g1 fTup)) := cr1 fun pins s σ H v u Q m h0 x d z I ru S rx e1 e2 q => by
  unfold fTup at e2
  split at e2
  · cases e2
    obtain ⟨a, vs, rfl, hs, t⟩ := view_list S rx e1
    exact call_tuple_of pins s σ H [_] [u] Q I (.cons ru .nil) ⟨a, vs, rfl, .inl ⟨hs, fun l hl => q m _ (Ext.new S hl) (S.new hl) _ (rp_newT S hl t)⟩⟩
  · cases e2
    obtain ⟨a, vs, rfl, hs, t⟩ := view_tup S rx e1
    exact call_tuple_of pins s σ H [_] [u] Q I (.cons ru .nil) ⟨a, vs, rfl, .inr ⟨hs.sq, q m H (Ext.refl _ _) S _ (.tup hs t)⟩⟩
  · cases e2
def fList : PyData → Option PyData
  | .list ds => some (.list ds)
  | .tuple ds => some (.list ds)
  | _ => none
theorem k_list : CallR X (.type "list") (rA X.K T (g1 fList)) := cr1 fun pins s σ H v u Q m h0 x d z I ru S rx e1 e2 q => by
  unfold fList at e2
  split at e2
  · cases e2
    obtain ⟨a, vs, rfl, hs, t⟩ := view_list S rx e1
    exact call_list_of pins s σ H [_] [u] Q I (.cons ru .nil) ⟨a, vs, rfl, .inl hs, fun l hl => q m _ (Ext.new S hl) (S.new hl) _ (rp_newL S hl t)⟩
  · cases e2
    obtain ⟨a, vs, rfl, hs, t⟩ := view_tup S rx e1
    exact call_list_of pins s σ H [_] [u] Q I (.cons ru .nil) ⟨a, vs, rfl, .inr hs.sq, fun l hl => q m _ (Ext.new S hl) (S.new hl) _ (rp_newL S hl t)⟩
  · cases e2
/-! ### list(range(..)), tuple(range(..)) -/
def okR (i j : Int) : Bool := decide (-(2 ^ 62) ≤ i ∧ i < 2 ^ 62 ∧ -(2 ^ 62) ≤ j ∧ j < 2 ^ 62 ∧ (j - i).toNat ≤ 2 ^ 24)
theorem okR_ok {i j : Int} (h : okR i j = true) : RgOk i j := by
  unfold okR at h
  simp only [decide_eq_true_eq] at h
  exact h
theorem rpl_rg {K m H} {i j : Int} : RpL K m H (intR i (j - i).toNat) (rgV i j) := by
  unfold intR rgV
  have go : ∀ l : List Nat, RpL K m H (l.map fun n => .int (i + (n : Nat))) (l.map fun n => V.int (i + (n : Nat))) := by
    intro l
    induction l with
    | nil => exact .nil
    | cons x l ih => exact .cons (.int _) ih
  exact go _
def asI : Val → Option Int
  | .d (.int i) => some i
  | _ => none
theorem asI_some {x : Val} {i : Int} (e : asI x = some i) : x = .d (.int i) := by
  unfold asI at e
  split at e
  · cases e; rfl
  · cases e
def cRg1 (mk : List PyData → PyData) (ea : CE) : CE := fun σ => bnd (ea σ) fun x => lift fun h => match asI x with
  | some j => if okR 0 j = true then some (.d (mk (intR 0 (j - 0).toNat)), h) else none
  | none => none
def cRg2 (mk : List PyData → PyData) (ea eb : CE) : CE := fun σ => bnd (ea σ) fun x => bnd (eb σ) fun y => lift fun h => match asI x, asI y with
  | some i, some j => if okR i j = true then some (.d (mk (intR i (j - i).toNat)), h) else none
  | _, _ => none
theorem rg1_read {mk : List PyData → PyData} {σ : L2.St} {H : Hp} {Q : VK} {new : List V → HO} (hn : ∀ {m : MM} {h : AH} {H : Hp} {ds vs p}, Sim X.K T m h H → H p = none → RpL X.K m H ds vs → Rp X.K m (upd H p (new vs)) (mk ds) (.ref p)) (h : tE X T W (cRg1 mk ca) σ H Q) :
    tRg1 (tE X T W ca) σ H fun i j H1 => RgOk i j ∧ ∀ q, H1 q = none → Q (.ref q) (upd H1 q (new (rgV i j))) := by
  refine tAny_bind h fun m h1 H1 σa x v S RS r A => ?_
  obtain ⟨z, h', e, q⟩ := A.lifted
  cases hx : asI x with
  | none => simp only [hx] at e; cases e
  | some j =>
    simp only [hx] at e
    cases asI_some hx
    cases (show Rp X.K m H1 (.int j) v from r)
    by_cases hk : okR 0 j = true
    · rw [if_pos hk] at e; cases e
      exact ⟨j, rfl, okR_ok hk, fun p hp => q m _ (Ext.new S hp) (S.new hp) _ (hn S hp rpl_rg)⟩
    · rw [if_neg hk] at e; cases e
theorem rg2_read {mk : List PyData → PyData} {σ : L2.St} {H : Hp} {Q : VK} {new : List V → HO} (hn : ∀ {m : MM} {h : AH} {H : Hp} {ds vs p}, Sim X.K T m h H → H p = none → RpL X.K m H ds vs → Rp X.K m (upd H p (new vs)) (mk ds) (.ref p)) (h : tE X T W (cRg2 mk ca cb) σ H Q) :
    tRg2 (tE X T W ca) (tE X T W cb) σ H fun i j H1 => RgOk i j ∧ ∀ q, H1 q = none → Q (.ref q) (upd H1 q (new (rgV i j))) := by
  refine tAny_bind h fun m h1 H1 σa x v S RS r A => ?_
  refine ⟨m, h1, σa, S, RS, A.bind.mono fun m2 h2 H2 y E2 S2 A2 w ry => ?_⟩
  obtain ⟨z, h', e, q⟩ := A2.lifted
  cases hx : asI x with
  | none => simp only [hx] at e; cases e
  | some i =>
    cases hy : asI y with
    | none => simp only [hx, hy] at e; cases e
    | some j =>
      simp only [hx, hy] at e
      cases asI_some hx
      cases asI_some hy
      cases (show Rp X.K m H1 (.int i) v from r)
      cases (show Rp X.K m2 H2 (.int j) w from ry)
      by_cases hk : okR i j = true
      · rw [if_pos hk] at e; cases e
        exact ⟨i, j, rfl, rfl, okR_ok hk, fun p hp => q m2 _ (Ext.new S2 hp) (S2.new hp) _ (hn S2 hp rpl_rg)⟩
      · rw [if_neg hk] at e; cases e
theorem re_listRg1 {rp rpos : Pos} (C : Cok X W k) (hg : Gl X "list") (hm : X.mg "list" = none) (hg2 : Gl X "range") (hm2 : X.mg "range" = none) (ha : RE X T W a ca) (na : starEach [a] X.env = (false, eval a X.env) :: starEach [] X.env := by rfl)
    (na2 : starEach [.Call (.Name "range" rp) [a] [] rpos] X.env = (false, eval (.Call (.Name "range" rp) [a] [] rpos) X.env) :: starEach [] X.env := by rfl) : RE X T W (.Call (.Name "list" p) [.Call (.Name "range" rp) [a] [] rpos] [] pos) (cRg1 .list ca) :=
  ⟨PE.imp (pe_listRg C.calm hg hm (prg_1 hg2 hm2 ha.pe na) na2) fun _ _ _ h => rg1_read (new := .lst) (fun S hp r => rp_newL S hp r) h⟩
theorem re_listRg2 {rp rpos : Pos} (C : Cok X W k) (hg : Gl X "list") (hm : X.mg "list" = none) (hg2 : Gl X "range") (hm2 : X.mg "range" = none) (ha : RE X T W a ca) (hb : RE X T W b cb) (na : starEach [a, b] X.env = (false, eval a X.env) :: starEach [b] X.env := by rfl) (nb : starEach [b] X.env = (false, eval b X.env) :: starEach [] X.env := by rfl) (hp : (backTo rpos (starEach [b] X.env)).any (·.1) = false := by rfl)
    (na2 : starEach [.Call (.Name "range" rp) [a, b] [] rpos] X.env = (false, eval (.Call (.Name "range" rp) [a, b] [] rpos) X.env) :: starEach [] X.env := by rfl) : RE X T W (.Call (.Name "list" p) [.Call (.Name "range" rp) [a, b] [] rpos] [] pos) (cRg2 .list ca cb) :=
  ⟨PE.imp (pe_listRg C.calm hg hm (prg_2 hg2 hm2 ha.pe hb.pe na nb hp) na2) fun _ _ _ h => rg2_read (new := .lst) (fun S hp r => rp_newL S hp r) h⟩
theorem re_tupRg2 {rp rpos : Pos} (C : Cok X W k) (hg : Gl X "tuple") (hm : X.mg "tuple" = none) (hg2 : Gl X "range") (hm2 : X.mg "range" = none) (ha : RE X T W a ca) (hb : RE X T W b cb) (na : starEach [a, b] X.env = (false, eval a X.env) :: starEach [b] X.env := by rfl) (nb : starEach [b] X.env = (false, eval b X.env) :: starEach [] X.env := by rfl) (hp : (backTo rpos (starEach [b] X.env)).any (·.1) = false := by rfl)
    (na2 : starEach [.Call (.Name "range" rp) [a, b] [] rpos] X.env = (false, eval (.Call (.Name "range" rp) [a, b] [] rpos) X.env) :: starEach [] X.env := by rfl) : RE X T W (.Call (.Name "tuple" p) [.Call (.Name "range" rp) [a, b] [] rpos] [] pos) (cRg2 .tuple ca cb) :=
  ⟨PE.imp (pe_tupRg C.calm hg hm (prg_2 hg2 hm2 ha.pe hb.pe na nb hp) na2) fun _ _ _ h => rg2_read (new := .tup) (fun S hp r => rp_newT S hp r) h⟩
/-! ### items, slices -/
def gIx : G2 := fun x y h => match asI y with
  | some i => match x with
    | .d (.list ds) => (atI ds i).map fun d => (.d d, h)
    | .d (.tuple ds) => (atI ds i).map fun d => (.d d, h)
    | .fl ds => (atI ds i).map fun d => (.d d, h)
    | .ref l => match h[l]? with
      | some (.lst xs) => (atI xs i).map fun d => (d, h)
      | _ => none
    | _ => none
  | none => none
theorem atI_rel {α β : Type} {F : α → β → Prop} {xs : List α} {ys : List β} {i : Int} {x : α} (hl : xs.length = ys.length) (f : ∀ (j : Nat) x, xs[j]? = some x → ∃ y, ys[j]? = some y ∧ F x y) (e : atI xs i = some x) : ∃ y, atI ys i = some y ∧ F x y := by
  unfold atI at e ⊢
  rw [← hl]
  cases h : ixN xs.length i with
  | none => rw [h] at e; cases e
  | some j =>
    rw [h] at e
    exact f j x e
theorem map_some {α β : Type} {o : Option α} {f : α → β} {z : β} (e : o.map f = some z) : ∃ x, o = some x ∧ f x = z := Option.map_eq_some_iff.mp e
theorem IxR.orR {r r' : R2} (h : IxR X r) (h' : IxR X r') : IxR X (fun x y H Q => r x y H Q ∨ r' x y H Q) := IxR.or h h'
theorem ix_g : IxR X (rP X.K T gIx) := by
  have base : IxR X (fun x y H Q => rIxL X.K x y H Q ∨ rIxT X.K x y H Q) := IxR.or ix_list ix_tup
  intro value slice pins s σ H x y v u Q I rx ry h hs
  refine base value slice pins s σ H x y v u Q I rx ry ?_ hs
  obtain ⟨m, h0, a, b, z, h', S, ra, rb, e, q⟩ := h
  unfold gIx at e
  cases hb : asI b with
  | none => rw [hb] at e; cases e
  | some i =>
    rw [hb] at e
    cases asI_some hb
    cases (show Rp X.K m H (.int i) y from rb)
    cases a with
    | d w =>
      cases w with
      | list ds =>
        obtain ⟨d, ed, ez⟩ := map_some e
        cases ez
        cases (show Rp X.K m H (.list ds) x from ra) with
        | lst hz t =>
          obtain ⟨v1, ev, rv⟩ := atI_rel (F := fun d v => Rp X.K m H d v) t.length (fun j x e => t.get e) ed
          exact .inl ⟨_, _, i, v1, rfl, rfl, (TrL.fz hz).sq, ev, q m H (Ext.refl _ _) S v1 rv⟩
      | tuple ds =>
        obtain ⟨d, ed, ez⟩ := map_some e
        cases ez
        cases (show Rp X.K m H (.tuple ds) x from ra) with
        | tup hz t =>
          obtain ⟨v1, ev, rv⟩ := atI_rel (F := fun d v => Rp X.K m H d v) t.length (fun j x e => t.get e) ed
          exact .inr ⟨_, _, i, v1, rfl, rfl, hz.sq, ev, q m H (Ext.refl _ _) S v1 rv⟩
      | _ => cases e
    | fl ds =>
      obtain ⟨d, ed, ez⟩ := map_some e
      cases ez
      obtain ⟨p, vs, rfl, hz, t⟩ := ra
      obtain ⟨v1, ev, rv⟩ := atI_rel (F := fun d v => Rp X.K m H d v) t.length (fun j x e => t.get e) ed
      exact .inl ⟨_, _, i, v1, rfl, rfl, hz.sq, ev, q m H (Ext.refl _ _) S v1 rv⟩
    | ref l =>
      cases hl : h0[l]? with
      | none => simp only [hl] at e; cases e
      | some cc =>
        cases cc with
        | lst xs =>
          simp only [hl] at e
          obtain ⟨d, ed, ez⟩ := map_some e
          cases ez
          obtain ⟨y1, e1, ok⟩ := Paired.at_ S.cell hl
          cases ok with
          | lst ha hr =>
            have := ra.2 _ e1
            subst this
            obtain ⟨v1, ev, rv⟩ := atI_rel (F := fun d v => RepV X.K m H d v) (Paired.len hr) (fun j x e => Paired.at_ hr e) ed
            exact .inl ⟨_, _, i, v1, rfl, rfl, .inl (.inl ha), ev, q m H (Ext.refl _ _) S v1 rv⟩
        | _ => simp only [hl] at e; cases e
theorem re_ix (ha : RE X T W a ca) (hb : RE X T W b cb) (hs : PlainIx b := by exact fun _ _ => rfl) : RE X T W (.Subscript a b pos) (cOp gIx ca cb) := ⟨PE.imp (pe_ix ix_g ha.pe hb.pe hs) fun _ _ _ h => tE_op h⟩
/-- an end of a slice -/
abbrev CO := SA → M (Option Int)
structure RO (X : Cx) (T : Tx) (W : WX) (e : Option Expr) (c : CO) : Prop where
  po : PO X e (tAny X T W (fun _ _ (x v : Option Int) => v = x) c)
theorem PO.imp {X : Cx} {e : Option Expr} {t t' : TO} (h : PO X e t) (f : ∀ σ H Q, t' σ H Q → t σ H Q) : PO X e t' := ⟨fun pins s σ H Q I q => h.run pins s σ H Q I (f _ _ _ q)⟩
def cNoPart : CO := fun _ => ret none
def cPart (e : CE) : CO := fun σ => bnd (e σ) fun x => lift fun h => (asI x).map fun i => (some i, h)
theorem ro_none : RO X T W none cNoPart := ⟨PO.imp po_none fun σ H Q ⟨m, h0, σa, S, RS, A⟩ => Aft.ret_ S A none rfl⟩
theorem ro_some (he : RE X T W e ce) : RO X T W (some e) (cPart ce) := ⟨PO.imp (po_some he.pe) fun σ H Q h => by
  refine tAny_bind h fun m h1 H1 σa x v S RS r A => ?_
  obtain ⟨z, h', e, q⟩ := A.lifted
  obtain ⟨i, ei, ez⟩ := map_some e
  cases ez
  cases asI_some ei
  cases (show Rp X.K m H1 (.int i) v from r)
  exact ⟨i, rfl, q m H1 (Ext.refl _ _) S _ rfl⟩⟩
def cutD (xs : List PyData) (lo hi : Option Int) : List PyData := (xs.drop (HT.sIx xs.length 0 lo)).take (HT.sIx xs.length xs.length hi - HT.sIx xs.length 0 lo)
def fSl : PyData → Option Int → Option Int → Option PyData
  | .list ds, l, u => some (.list (cutD ds l u))
  | .tuple ds, l, u => some (.tuple (cutD ds l u))
  | _, _, _ => none
def cSl (e : CE) (l u : CO) : CE := fun σ => bnd (e σ) fun x => bnd (l σ) fun lo => bnd (u σ) fun hi => lift fun h => match viewD x h with
  | some d => (fSl d lo hi).map fun z => (.d z, h)
  | none => none
theorem cut_rep {K m H ds vs lo hi} (t : RpL K m H ds vs) : RpL K m H (cutD ds lo hi) (cutV vs lo hi) := by
  unfold cutD cutV
  rw [t.length]
  exact (t.drop _).take _
theorem re_slice {lo hi : Option Expr} {cl cu : CO} {p2 : Pos} (he : RE X T W e ce) (hl : RO X T W lo cl) (hu : RO X T W hi cu) : RE X T W (.Subscript e (.Slice lo hi none p2) pos) (cSl ce cl cu) :=
  ⟨PE.imp (pe_slice (SlR.or sl_list sl_tupA) he.pe hl.po hu.po) fun σ H Q h => by
    refine tAny_bind h fun m h1 H1 σa x v S RS r A => ?_
    refine ⟨m, h1, σa, S, RS, A.bind.mono fun m2 h2 H2 l E2 S2 A2 l' el => ⟨m2, h2, σa, S2, RS.mono E2, A2.bind.mono fun m3 h3 H3 u E3 S3 A3 u' eu => ?_⟩⟩
    subst el eu
    obtain ⟨z, h', e, q⟩ := A3.lifted
    have r3 := (r.mono E2).mono E3
    cases hv : viewD x h3 with
    | none => simp only [hv] at e; cases e
    | some d =>
      simp only [hv] at e
      obtain ⟨y, ey, ez⟩ := map_some e
      cases ez
      cases d with
      | list ds =>
        cases ey
        obtain ⟨p, vs, rfl, hs, t⟩ := view_list S3 r3 hv
        exact .inl ⟨p, vs, rfl, hs, fun q1 hq => q m3 _ (Ext.new S3 hq) (S3.new hq) _ (rp_newL S3 hq (cut_rep t))⟩
      | tuple ds =>
        cases ey
        obtain ⟨p, vs, rfl, hs, t⟩ := view_tup S3 r3 hv
        refine .inr ⟨p, vs, rfl, hs.sq, fun hw => ?_, fun _ q1 hq => q m3 _ (Ext.new S3 hq) (S3.new hq) _ (rp_newT S3 hq (cut_rep t))⟩
        have ew : cutD ds l' u' = ds := by
          unfold cutD
          rw [t.length, hw.1, hw.2, List.drop_zero, Nat.sub_zero, ← t.length]
          exact List.take_length
        rw [ew] at q
        exact q m3 H3 (Ext.refl _ _) S3 _ (.tup hs t)
      | _ => cases ey⟩
/-! ### cells -/
/-- a list of values that will change -/
def gNewL : GA := fun xs h => if xs.length ≤ sizeLine then some (.ref h.length, h ++ [.lst xs]) else none
theorem re_newL (ha : RA X T W es cr) : RE X T W (.List es pos) (cAp gNewL cr) :=
  ⟨PE.imp (pe_lst ha.pa) fun σ H Q h => by
    obtain ⟨m, h0, σa, S, RS, A⟩ := tE_ap h
    refine ⟨m, h0, σa, S, RS, A.mono fun m1 h1 H1 xs E S1 q vs rv => ?_⟩
    obtain ⟨m, h2, xs, z, h', S, r, e, q⟩ := q vs rv
    unfold gNewL at e
    by_cases hz : xs.length ≤ sizeLine
    · rw [if_pos hz] at e; cases e
      refine ⟨by rw [← Paired.len r]; exact hz, fun p hp => q (m ++ [some p]) _ (Ext.push S hp) (S.push hp r) _ ⟨by rw [List.length_append, S.len]; exact Nat.lt_succ_self _, fun a ea => ?_⟩⟩
      rw [S.len, List.getElem?_append_right (Nat.le_refl _), Nat.sub_self] at ea
      cases ea
      rfl
    · rw [if_neg hz] at e; cases e⟩
def setC (o i v : Val) (h : AH) : Option AH := match o, asI i with
  | .ref l, some k => match h[l]? with
    | some (.lst xs) => (ixN xs.length k).map fun j => h.set l (.lst (xs.set j v))
    | _ => none
  | _, _ => none
theorem cell_lst {K : PySem.W.Frag} {m : MM} {h : AH} {H : Hp} {l : Nat} {v : V} {xs : List Val} (S : Sim K T m h H) (r : RepV K m H (.ref l) v) (e : h[l]? = some (.lst xs)) : ∃ a vs, v = .ref a ∧ m[l]? = some (some a) ∧ H a = some (.lst vs) ∧ RepVs K m H xs vs := by
  obtain ⟨y, e1, ok⟩ := Paired.at_ S.cell e
  cases ok with
  | lst ha hr => exact ⟨_, _, r.2 _ e1, e1, ha, hr⟩
theorem st_list : PSet X (rSet X.K T setC) := by
  intro pins s σ H o i v ov iv u Q I ro ri rv h
  refine set_list pins s σ H o i v ov iv u Q I ro ri rv ?_
  obtain ⟨m, h0, oa, ia, va, h', S, r1, r2, r3, e, q⟩ := h
  unfold setC at e
  split at e
  · rename_i l k hk
    cases asI_some hk
    cases (show Rp X.K m H (.int k) i from r2)
    cases hl : h0[l]? with
    | none => simp only [hl] at e; cases e
    | some cc =>
      simp only [hl] at e
      cases cc with
      | lst xs =>
        obtain ⟨j, ej, ez⟩ := map_some e
        cases ez
        obtain ⟨a, vs, rfl, em, ha, hr⟩ := cell_lst S r1 hl
        refine ⟨a, vs, k, j, rfl, rfl, ha, by rw [← Paired.len hr]; exact ej, q m _ (Ext.store em _ ⟨_, ha, (fun _ _ z => nomatch z), (fun _ z => nomatch z)⟩) (S.store em (.lst upd_same (Paired.setP (RepV.mono (Ext.store em _ ⟨_, ha, (fun _ _ z => nomatch z), (fun _ z => nomatch z)⟩) r3) j (RepVs.mono (Ext.store em _ ⟨_, ha, (fun _ _ z => nomatch z), (fun _ z => nomatch z)⟩) hr))))⟩
      | _ => cases e
  · cases e
/-- a list of data, its cell given up -/
def cFz (e : CE) : CE := fun σ h => match e σ h with
  | some (.ok (.ref l), h1) => if h.length = l ∧ h1.length = l + 1 ∧ (h1.take l).all (Cell.below l) = true then match h1[l]? with
      | some (.lst xs) => (allD xs).map fun ds => (.ok (.d (.list ds)), h1.take l)
      | _ => none
    else none
  | o => o
theorem Sim.free_take {K T m h H} (S : Sim K T m h H) {l : Nat} {a : Addr} (e : m[l]? = some (some a)) : some a ∉ m.take l := fun z => by
  obtain ⟨j, ej⟩ := List.mem_iff_getElem?.mp z
  have hj : j < l := by
    rcases Nat.lt_or_ge j l with q | q
    · exact q
    · rw [List.getElem?_eq_none (by rw [List.length_take]; omega)] at ej; cases ej
  rw [List.getElem?_take_of_lt hj] at ej
  have := S.inj j l a ej e
  omega
theorem re_fz (he : RE X T W e ce) : RE X T W e (cFz ce) := ⟨PE.imp he.pe fun σ H Q ⟨m, h, σa, S, RS, o, h', e, q⟩ => by
  refine ⟨m, h, σa, S, RS, ?_⟩
  cases hc : ce σa h with
  | none => unfold cFz at e; simp only [hc] at e; cases e
  | some p =>
    obtain ⟨r1, h1⟩ := p
    unfold cFz at e
    simp only [hc] at e
    cases r1 with
    | exn n fs => cases e; exact ⟨_, _, rfl, q⟩
    | ok x =>
      cases x with
      | d y => cases e; exact ⟨_, _, rfl, q⟩
      | fl y => cases e; exact ⟨_, _, rfl, q⟩
      | ref l =>
        simp only at e
        by_cases hk : h.length = l ∧ h1.length = l + 1 ∧ (h1.take l).all (Cell.below l) = true
        · rw [if_pos hk] at e
          obtain ⟨hk1, hk2, hk3⟩ := hk
          cases hl : h1[l]? with
          | none => simp only [hl] at e; cases e
          | some cc =>
            simp only [hl] at e
            cases cc with
            | lst xs =>
              obtain ⟨ds, ed, ez⟩ := map_some e
              cases ez
              refine ⟨_, _, rfl, fun m1 H1 E1 S1 v r => ?_⟩
              obtain ⟨a, vs, rfl, em, ha, hr⟩ := cell_lst S1 r hl
              have Ec := E1.cut
              rw [← S.len, hk1] at Ec
              exact q _ H1 Ec (S1.cut (by rw [← S1.len]; omega) hk3) _ (.lst ⟨ha, S1.free_take em⟩ ((allD_rep hr ed).sub take_sub))
            | _ => cases e
        · rw [if_neg hk] at e; cases e⟩
/-- a name's cell given up: data from now on -/
def sFz (i : Nat) (k : CS) : CS := fun σ h => match σ[i]? with
  | some (some (.ref l)) => match h[l]? with
    | some (.lst xs) => match allD xs with
      | some ds => k (σ.set i (some (.d (.list ds)))) (h.set l .dead)
      | none => none
    | _ => none
  | _ => none
theorem RepS.reset {K m H σa} {σ : L2.St} (h : RepS K m H σa σ) {i : Nat} {x : Val} {v : V} (e : σ[i]? = some (some v)) (r : RepV K m H x v) : RepS K m H (σa.set i (some x)) σ :=
  Paired.setMem (F := fun (x : Option Val) (v : Option V) => ∀ a, x = some a → ∃ w, v = some w ∧ RepV K m H a w) i (some x) h (fun j a b _ _ q => q) fun b eb a ea => by
    rw [e] at eb
    cases eb
    cases ea
    exact ⟨v, rfl, r⟩
theorem Ext.kill {m : MM} {H : Hp} (l : Nat) : Ext m H (m.set l none) H := by
  refine ⟨⟨⟨by rw [List.length_set]; exact Nat.le_refl _, fun j a hj e => ?_, fun a o e n _ hm => ⟨e, fun z => ?_⟩⟩, fun _ _ _ e => e⟩, fun _ _ e => e⟩
  · by_cases hjl : l = j
    · subst hjl
      rw [List.getElem?_set_self hj] at e; cases e
    · rw [List.getElem?_set_ne hjl] at e; exact e
  · rcases List.mem_or_eq_of_mem_set z with q | q
    · exact hm q
    · cases q
theorem Sim.kill {K T m h H} (S : Sim K T m h H) (l : Nat) : Sim K T (m.set l none) (h.set l .dead) H := by
  refine ⟨Paired.setP (F := fun c x => CellOk K (m.set l none) H c x) .dead l (Paired.mem_map S.cell fun c x _ q => q.mono (Ext.kill l) fun _ _ => rfl), fun j j' a e1 e2 => ?_, S.tab⟩
  have g : ∀ {j : Nat}, (m.set l none)[j]? = some (some a) → m[j]? = some (some a) := fun {j} e => by
    by_cases hjl : l = j
    · subst hjl
      by_cases hl : l < m.length
      · rw [List.getElem?_set_self hl] at e; cases e
      · rw [List.getElem?_eq_none (by rw [List.length_set]; omega)] at e; cases e
    · rw [List.getElem?_set_ne hjl] at e; exact e
  exact S.inj j j' a (g e1) (g e2)
theorem rss_fz {sts : List Stmt} {cs : CS} (i : Nat) (h : RSs X T W sts cs) : RSs X T W sts (sFz i cs) := ⟨PSs.imp h.pss fun D σ H ⟨m, h, σa, S, RS, A⟩ => by
  unfold sFz at A
  cases hi : σa[i]? with
  | none => simp only [hi] at A; obtain ⟨_, _, e, _⟩ := A; cases e
  | some o =>
    cases o with
    | none => simp only [hi] at A; obtain ⟨_, _, e, _⟩ := A; cases e
    | some x =>
      cases x with
      | ref l =>
        simp only [hi] at A
        cases hl : h[l]? with
        | none => simp only [hl] at A; obtain ⟨_, _, e, _⟩ := A; cases e
        | some cc =>
          cases cc with
          | lst xs =>
            simp only [hl] at A
            cases hd : allD xs with
            | none => simp only [hd] at A; obtain ⟨_, _, e, _⟩ := A; cases e
            | some ds =>
              simp only [hd] at A
              obtain ⟨v, ev, rv⟩ := RS.get hi
              obtain ⟨a, vs, rfl, em, ha, hr⟩ := cell_lst S rv hl
              have E : Ext m H (m.set l none) H := Ext.kill l
              have na : some a ∉ m.set l none := fun z => by
                obtain ⟨j, ej⟩ := List.mem_iff_getElem?.mp z
                by_cases hjl : l = j
                · subst hjl
                  by_cases hlm : l < m.length
                  · rw [List.getElem?_set_self hlm] at ej; cases ej
                  · rw [List.getElem?_eq_none (by rw [List.length_set]; omega)] at ej; cases ej
                · rw [List.getElem?_set_ne hjl] at ej
                  exact hjl (S.inj l j a em ej)
              exact ⟨_, _, _, S.kill l, (RS.mono E).reset (x := .d (.list ds)) ev (show Rp X.K (m.set l none) H (.list ds) (.ref a) from .lst ⟨ha, na⟩ ((allD_rep hr hd).mono E)), AftS.lower E A⟩
          | _ => simp only [hl] at A; obtain ⟨_, _, e, _⟩ := A; cases e
      | _ => simp only [hi] at A; obtain ⟨_, _, e, _⟩ := A; cases e⟩
/-- o.m(..) of a built-in type: the receiver is of the type, then the arguments -/
abbrev GM := Val → List Val → AH → Option (Val × AH)
def cMt (ty : Val → AH → Bool) (g : GM) (o : CE) (a : CA) : CE := fun σ => bnd (o σ) fun x => bnd (lift fun h => if ty x h = true then some ((), h) else none) fun _ => bnd (a σ) fun xs => lift (g x xs)
def rM (K : PySem.W.Frag) (T : Tx) (g : GM) : V → List V → Hp → VK → Prop := fun vo vs H Q => ∃ m h o xs z h', Sim K T m h H ∧ RepV K m H o vo ∧ RepVs K m H xs vs ∧ g o xs h = some (z, h') ∧
  ∀ m' H', Ext m H m' H' → Sim K T m' h' H' → ∀ v, RepV K m' H' z v → Q v H'
theorem tE_mt {ty : Val → AH → Bool} {g : GM} {Ty : String} {σ : L2.St} {H : Hp} {Q : VK} (hty : ∀ m h H x v, Sim X.K T m h H → RepV X.K m H x v → ty x h = true → tyV X.K Ty v H) (h : tE X T W (cMt ty g co cr) σ H Q) :
    tBM X.K Ty (rM X.K T g) (tE X T W co) (tA X T W cr) σ H Q := by
  refine tAny_bind h fun m h1 H1 σa x v S RS r A => ?_
  obtain ⟨z, h', e, q⟩ := A.bind.lifted
  by_cases hk : ty x h1 = true
  · rw [if_pos hk] at e; cases e
    refine ⟨hty m h1 H1 x v S r hk, m, h1, σa, S, RS, (q m H1 (Ext.refl _ _) S).bind.mono fun m2 h2 H2 xs E2 S2 A2 vs rs => ?_⟩
    obtain ⟨z2, h3, e3, q3⟩ := A2.lifted
    exact ⟨m2, h2, x, xs, z2, h3, S2, r.mono E2, rs, e3, fun m' H' E S v rv => q3 m' H' E S v rv⟩
  · rw [if_neg hk] at e; cases e
def isCl (x : Val) (h : AH) : Bool := match x with
  | .ref l => match h[l]? with
    | some (.lst _) => true
    | _ => false
  | _ => false
theorem ty_cl {m : MM} {h : AH} {H : Hp} {x : Val} {v : V} (S : Sim X.K T m h H) (r : RepV X.K m H x v) (e : isCl x h = true) : tyV X.K "list" v H := by
  unfold isCl at e
  split at e
  · rename_i l
    split at e
    · rename_i xs hl
      obtain ⟨a, vs, rfl, _, ha, _⟩ := cell_lst S r hl
      exact .inl ⟨rfl, _, .inl (.inl ha)⟩
    · cases e
  · cases e
def gApp : GM := fun o xs h => match o, xs with
  | .ref l, [y] => match h[l]? with
    | some (.lst ys) => if ys.length < sizeLine then some (.d .none, h.set l (.lst (ys ++ [y]))) else none
    | _ => none
  | _, _ => none
theorem m_append : MtM X "list.append" (rM X.K T gApp) := by
  intro pins s σ H x vs v us Q I rx rv h
  refine mt_append pins s σ H x vs v us Q I rx rv ?_
  obtain ⟨m, h0, o, xs, z, h', S, ro, rs, e, q⟩ := h
  unfold gApp at e
  split at e
  · rename_i l y
    cases hl : h0[l]? with
    | none => simp only [hl] at e; cases e
    | some cc =>
      simp only [hl] at e
      cases cc with
      | lst ys =>
        simp only at e
        by_cases hz : ys.length < sizeLine
        · rw [if_pos hz] at e; cases e
          obtain ⟨a, ws, rfl, em, ha, hr⟩ := cell_lst S ro hl
          obtain ⟨w, rfl, rw'⟩ := paired1 rs
          exact ⟨a, ws, w, rfl, rfl, ha, by rw [← Paired.len hr]; exact hz, q m _ (Ext.store em _ ⟨_, ha, (fun _ _ z => nomatch z), (fun _ z => nomatch z)⟩) (S.store em (.lst upd_same (RepVs.mono (Ext.store em _ ⟨_, ha, (fun _ _ z => nomatch z), (fun _ z => nomatch z)⟩) (Paired.app hr (.cons rw' .nil))))) _ .non⟩
        · rw [if_neg hz] at e; cases e
      | _ => cases e
  · cases e
theorem re_append (ho : RE X T W o co) (ha : RA X T W (e :: es) cr) (hbase : attributeBase o "append" X.env (eval o X.env) = eval o X.env := by rfl)
    (hfew : ((backTo cpos (starEach (e :: es) X.env)).all (fun x => !x.1) && (backToKw cpos (keywordEach [] X.env)).all (fun x => x.1.isSome) && decide ((e :: es).length + ([] : List Keyword).length + (if ([] : List Keyword).isEmpty then 0 else 1) < 30)) = true := by rfl)
    (hline : (apos.endLine == cpos.line) = true := by rfl) (hs : starEach (e :: es) X.env = (false, eval e X.env) :: starEach es X.env := by rfl) (hplain : (backTo cpos (starEach es X.env)).any (·.1) = false := by rfl) :
    RE X T W (.Call (.Attribute o "append" apos) (e :: es) [] cpos) (cMt isCl gApp co cr) :=
  ⟨PE.imp (pe_bm PySem.F.plainAttrs_list PySem.F.slot_list_append PySem.F.type_list_append m_append ho.pe ha.pa hbase hfew hline hs hplain) fun σ H Q h => tE_mt (fun m h H x v S r e => ty_cl S r e) h⟩
/-! ### list.count, int.bit_length -/
def isL (x : Val) (h : AH) : Bool := match viewD x h with
  | some (.list _) => true
  | _ => false
theorem ty_l {m : MM} {h : AH} {H : Hp} {x : Val} {v : V} (S : Sim X.K T m h H) (r : RepV X.K m H x v) (e : isL x h = true) : tyV X.K "list" v H := by
  unfold isL at e
  split at e
  · rename_i ds hv
    obtain ⟨a, vs, rfl, hs, _⟩ := view_list S r hv
    exact .inl ⟨rfl, _, hs⟩
  · cases e
def gCnt : GM := fun o xs h => match viewD o h, xs with
  | some (.list ds), [.d (.int k)] => (intsOf ds).map fun ns => (.d (.int (ns.count k : Nat)), h)
  | _, _ => none
theorem m_count : MtR X "list.count" (rM X.K T gCnt) := by
  intro pins s σ H x vs v us Q I rx rv h
  refine mt_lcount pins s σ H x vs v us Q I rx rv ?_
  obtain ⟨m, h0, o, xs, z, h', S, ro, rs, e, q⟩ := h
  unfold gCnt at e
  split at e
  · rename_i ds k hv
    obtain ⟨ns, en, ez⟩ := map_some e
    cases ez
    obtain ⟨w, rfl, rw'⟩ := paired1 rs
    cases (show Rp X.K m H (.int k) w from rw')
    obtain ⟨a, vs, rfl, hs, t⟩ := view_list S ro hv
    rw [intsOf_some en] at t
    rw [rpl_intV t] at hs
    exact ⟨a, ns, k, rfl, rfl, hs, q m H (Ext.refl _ _) S _ (.int _)⟩
  · cases e
theorem re_count (ho : RE X T W o co) (ha : RA X T W (e :: es) cr) (hbase : attributeBase o "count" X.env (eval o X.env) = eval o X.env := by rfl)
    (hfew : ((backTo cpos (starEach (e :: es) X.env)).all (fun x => !x.1) && (backToKw cpos (keywordEach [] X.env)).all (fun x => x.1.isSome) && decide ((e :: es).length + ([] : List Keyword).length + (if ([] : List Keyword).isEmpty then 0 else 1) < 30)) = true := by rfl)
    (hline : (apos.endLine == cpos.line) = true := by rfl) (hs : starEach (e :: es) X.env = (false, eval e X.env) :: starEach es X.env := by rfl) (hplain : (backTo cpos (starEach es X.env)).any (·.1) = false := by rfl) :
    RE X T W (.Call (.Attribute o "count" apos) (e :: es) [] cpos) (cMt isL gCnt co cr) :=
  ⟨PE.imp (pe_bm PySem.F.plainAttrs_list PySem.F.slot_list_count PySem.F.type_list_count m_count ho.pe ha.pa hbase hfew hline hs hplain) fun σ H Q h => tE_mt (fun m h H x v S r e => ty_l S r e) h⟩
def cBits (e : CE) : CE := fun σ => bnd (e σ) fun x => lift fun h => match asI x with
  | some i => some (.d (.int (Builtin.Int.intBits i : Nat)), h)
  | none => none
theorem re_bits (ho : RE X T W o co) (hbase : attributeBase o "bit_length" X.env (eval o X.env) = eval o X.env := by rfl) (hline : (apos.endLine == pos.line) = true := by rfl) : RE X T W (.Call (.Attribute o "bit_length" apos) [] [] pos) (cBits co) :=
  ⟨PE.imp (pe_bits ho.pe hbase hline) fun σ H Q h => by
    refine tAny_bind h fun m h1 H1 σa x v S RS r A => ?_
    obtain ⟨z, h', e, q⟩ := A.lifted
    cases hx : asI x with
    | none => simp only [hx] at e; cases e
    | some i =>
      simp only [hx] at e
      cases e
      cases asI_some hx
      cases (show Rp X.K m H1 (.int i) v from r)
      exact ⟨i, rfl, q m H1 (Ext.refl _ _) S _ (.int _)⟩⟩
/-! ### isinstance -/
def tyN : PyData → String
  | .none => "NoneType"
  | .bool _ => "bool"
  | .int _ => "int"
  | .str _ => "str"
  | .list _ => "list"
  | .tuple _ => "tuple"
  | .dict _ => "dict"
/-- is a value of the one type of the other -/
def isN (a b : String) : Bool := a == b || (a == "bool" && b == "int")
theorem kit_tab : ∀ a ∈ ["NoneType", "bool", "int", "str", "list", "tuple"], ∀ b ∈ ["bool", "int", "str", "list", "tuple", "dict"], kitB a b = some (isN a b) := by decide +kernel
theorem tyN_mem {d : PyData} (h : ∀ kvs, d ≠ .dict kvs) : tyN d ∈ ["NoneType", "bool", "int", "str", "list", "tuple"] := by
  cases d with
  | dict k => exact absurd rfl (h k)
  | _ => simp [tyN]
theorem ty_x {m : MM} {h : AH} {H : Hp} {x : Val} {v : V} {d : PyData} (S : Sim X.K T m h H) (r : RepV X.K m H x v) (e : viewD x h = some d) : TyX X.K H v (.type (tyN d)) ∧ ∀ kvs, d ≠ .dict kvs := by
  have lk : ∀ {a : Addr} {vs : List V}, SqL X.K H a vs → TyX X.K H (.ref a) (.type "list") := fun {a vs} hs => by
    rcases hs with (hs | ⟨o, hs⟩) | ⟨o, its, n, hk, hc, _⟩
    · exact .base (.lst hs)
    · exact .base (.frz hs)
    · exact .kList hk hc
  have tk : ∀ {a : Addr} {vs : List V}, SqT X.K H a vs → TyX X.K H (.ref a) (.type "tuple") := fun {a vs} hs => by
    rcases hs with (hs | ⟨o, hs⟩) | ⟨o, its, n, hk, hc, _⟩
    · exact .base (.tup hs)
    · exact .fTuple hs
    · exact .kTuple hk hc
  cases d with
  | list ds =>
    obtain ⟨a, vs, rfl, hs, _⟩ := view_list S r e
    exact ⟨lk hs, fun _ z => by cases z⟩
  | tuple ds =>
    obtain ⟨a, vs, rfl, hs, _⟩ := view_tup S r e
    exact ⟨tk hs.sq, fun _ z => by cases z⟩
  | none =>
    cases view_d S r e (fun _ z => by cases z)
    exact ⟨.base .non, fun _ z => by cases z⟩
  | bool b =>
    cases view_d S r e (fun _ z => by cases z)
    exact ⟨.base (.bl _), fun _ z => by cases z⟩
  | int b =>
    cases view_d S r e (fun _ z => by cases z)
    exact ⟨.base (.int _), fun _ z => by cases z⟩
  | str b =>
    cases view_d S r e (fun _ z => by cases z)
    exact ⟨.base (.str _), fun _ z => by cases z⟩
  | dict k => cases view_d S r e (fun _ z => by cases z)
def cIsi (Ts : List String) (e : CE) : CE := fun σ => bnd (e σ) fun x => lift fun h => match viewD x h with
  | some d => some (.d (.bool (Ts.any fun t => isN (tyN d) t)), h)
  | none => none
theorem isi_read {Ts : List String} {σ : L2.St} {H : Hp} {Q : VK} (h : tE X T W (cIsi Ts ce) σ H Q) : tE X T W ce σ H fun v H1 => ∃ d, (∀ kvs, d ≠ .dict kvs) ∧ ∃ m h, Sim X.K T m h H1 ∧ ∀ m' H', Ext m H1 m' H' → Sim X.K T m' h H' → TyX X.K H' v (.type (tyN d)) ∧ Q (.bl (Ts.any fun t => isN (tyN d) t)) H' := by
  refine tAny_bind h fun m h1 H1 σa x v S RS r A => ?_
  obtain ⟨z, h2, e, q⟩ := A.lifted
  cases hx : viewD x h1 with
  | none => simp only [hx] at e; cases e
  | some d =>
    simp only [hx] at e
    have e' := Option.some.inj e
    have ez : z = .d (.bool (Ts.any fun t => isN (tyN d) t)) := (congrArg Prod.fst e').symm
    have eh : h1 = h2 := congrArg Prod.snd e'
    subst ez eh
    exact ⟨d, (ty_x S r hx).2, m, h1, S, fun m' H' E S' => ⟨(ty_x S' (r.mono E) hx).1, q m' H' E S' _ (.bl _)⟩⟩
theorem re_isi {ty : Str} {tp : Pos} {t : String} (he : RE X T W e ce) (hg : Gl X "isinstance") (hm : X.mg "isinstance" = none) (hgt : Gl X ty) (hmt : X.mg ty = none) (hv : bootBuiltins ty = some (.type t)) (ht : t ∈ ["bool", "int", "str", "list", "tuple", "dict"] := by simp) (hn : ty ≠ "__name__" := by decide) (hd : (ty == ("__debug__" : Str)) = false := by decide)
    (hs1 : starEach [e, .Name ty tp] X.env = (false, eval e X.env) :: starEach [.Name ty tp] X.env := by rfl) (hs2 : starEach [.Name ty tp] X.env = (false, eval (.Name ty tp) X.env) :: starEach [] X.env := by rfl)
    (hpl : (backTo pos (starEach [.Name ty tp] X.env)).any (·.1) = false := by rfl) : RE X T W (.Call (.Name "isinstance" p) [e, .Name ty tp] [] pos) (cIsi [t] ce) :=
  ⟨PE.imp (pe_callB call_isi hg hm b_isinstance (pa_cons he.pe (pa_cons (pe_bltn (v := .ty t) hgt hmt hv rfl hn hd) pa_nil hs2) hs1) (by decide) (by decide) hs1 hpl) fun σ H Q h => by
    obtain ⟨m, h0, σa, S, RS, A⟩ := isi_read h
    refine ⟨m, h0, σa, S, RS, A.mono fun m1 h1 H1 x E S1 q v r => ?_⟩
    obtain ⟨d, t2, m2, h2, S2, q2⟩ := q v r
    obtain ⟨t1, q3⟩ := q2 m2 H1 (Ext.refl _ _) S2
    rw [List.any_cons, List.any_nil, Bool.or_false] at q3
    exact ⟨v, .ty t, .type (tyN d), .type t, _, rfl, .ty t, t1, kit_ty (kit_tab _ (tyN_mem t2) _ ht), q3⟩⟩
theorem re_isi2 {ty ty2 : Str} {tp tp2 tpos : Pos} {t t2 : String} {j : Nat} (he : RE X T W e ce) (hg : Gl X "isinstance") (hm : X.mg "isinstance" = none) (hgt : Gl X ty) (hmt : X.mg ty = none) (hv : bootBuiltins ty = some (.type t)) (hgt2 : Gl X ty2) (hmt2 : X.mg ty2 = none) (hv2 : bootBuiltins ty2 = some (.type t2))
    (ht : t ∈ ["bool", "int", "str", "list", "tuple", "dict"] := by simp) (hn : ty ≠ "__name__" := by decide) (hd : (ty == ("__debug__" : Str)) = false := by decide) (ht2 : t2 ∈ ["bool", "int", "str", "list", "tuple", "dict"] := by simp) (hn2 : ty2 ≠ "__name__" := by decide) (hd2 : (ty2 == ("__debug__" : Str)) = false := by decide)
    (hs1 : starEach [e, .Tuple [.Name ty tp, .Name ty2 tp2] j tpos] X.env = (false, eval e X.env) :: starEach [.Tuple [.Name ty tp, .Name ty2 tp2] j tpos] X.env := by rfl) (hs2 : starEach [.Tuple [.Name ty tp, .Name ty2 tp2] j tpos] X.env = (false, eval (.Tuple [.Name ty tp, .Name ty2 tp2] j tpos) X.env) :: starEach [] X.env := by rfl)
    (hs3 : starEach [.Name ty tp, .Name ty2 tp2] X.env = (false, eval (.Name ty tp) X.env) :: starEach [.Name ty2 tp2] X.env := by rfl) (hs4 : starEach [.Name ty2 tp2] X.env = (false, eval (.Name ty2 tp2) X.env) :: starEach [] X.env := by rfl)
    (hpl : (backTo pos (starEach [.Tuple [.Name ty tp, .Name ty2 tp2] j tpos] X.env)).any (·.1) = false := by rfl) : RE X T W (.Call (.Name "isinstance" p) [e, .Tuple [.Name ty tp, .Name ty2 tp2] j tpos] [] pos) (cIsi [t, t2] ce) :=
  ⟨PE.imp (pe_callB call_isiT hg hm b_isinstance (pa_cons he.pe (pa_cons (pe_tup (pa_cons (pe_bltn (v := .ty t) hgt hmt hv rfl hn hd) (pa_cons (pe_bltn (v := .ty t2) hgt2 hmt2 hv2 rfl hn2 hd2) pa_nil hs4) hs3)) pa_nil hs2) hs1) (by decide) (by decide) hs1 hpl) fun σ H Q h => by
    obtain ⟨m, h0, σa, S, RS, A⟩ := isi_read h
    refine ⟨m, h0, σa, S, RS, A.mono fun m1 h1 H1 x E S1 q v r => ?_⟩
    obtain ⟨d, t2', m2, h2, S2, q2⟩ := q v r
    refine ⟨by show 2 ≤ sizeLine; decide, fun tp3 htp3 => ?_⟩
    obtain ⟨t1', q3⟩ := q2 m2 _ (Ext.new S2 htp3 (o := .tup [.ty t, .ty t2])) (S2.new htp3)
    refine ⟨v, tp3, [.ty t, .ty t2], .type (tyN d), [.type t, .type t2], _, rfl, upd_same, .cons (.ty t) (.cons (.ty t2) .nil), t1', ?_, q3⟩
    have k1 := kit_ty (K := X.K) (kit_tab _ (tyN_mem t2') _ ht)
    have k2 := kit_ty (K := X.K) (kit_tab _ (tyN_mem t2') _ ht2)
    rw [List.any_cons, List.any_cons, List.any_nil, Bool.or_false]
    cases h1 : isN (tyN d) t with
    | true => exact kitAny_cons (b := true) (by rw [k1, h1]) (fun z => by cases z) fun _ => rfl
    | false =>
      refine kitAny_cons (b := false) (by rw [k1, h1]) (fun _ => ?_) fun z => by cases z
      cases h2 : isN (tyN d) t2 with
      | true => exact kitAny_cons (b := true) (by rw [k2, h2]) (fun z => by cases z) fun _ => rfl
      | false => exact kitAny_cons (b := false) (by rw [k2, h2]) (fun _ => kitAny_nil) fun z => by cases z⟩
end
end MV
/-! sorted of data, empty tuples among them -/
namespace MV
open PySem PySem.Spec PyProof.Rows L2 PySem.W

section
variable {prog : Program} {w : World} {A : Around} {s : Shared}
theorem call_tuple_lt {E : Value → Shared → Prop} {Q : Value → Shared → Prop} {l b : Addr} {items items2 : Array Value} {e r : Nat → Bool} (hl : s.heap.IsTuple l items) (hb : s.heap.IsTuple b items2)
    (he : ∀ j (h1 : j < items.size) (h2 : j < items2.size), SeqAt.EqAt A.in1 s items[j] items2[j] (e j)) (hr : ∀ j (h1 : j < items.size) (h2 : j < items2.size), e j = false → SeqAt.RcLt A.in1 s items[j] items2[j] (r j))
    (h : Q (.bool (SeqAt.firstLt e r (decide (items.size < items2.size)) (List.range (min items.size items2.size)))) s) : wpAny (model prog w) A (PySem.call (.builtin "tuple.__lt__") [.ref l, .ref b]) Q E s := by
  obtain ⟨⟨cls, dd, data, sl⟩, ho, hc, n, hd⟩ := id hl
  obtain ⟨⟨cls2, dd2, data2, sl2⟩, ho2, hc2, n2, hd2⟩ := id hb
  simp only at hc hd hc2 hd2
  subst hc hd hc2 hd2
  exact call_meets F.slot_tuple_lt ⟨_, ho, rfl⟩ F.entry_tuple_lt (F.args_tuple_lt_2 _ _) (SeqAt.tuple_ltAt l b items items2 n n2 dd dd2 sl sl2 e r) ⟨ho, ho2, he, hr, h⟩
theorem oneLt_tuple {xs ys : List PyData} {a b : Value} {as bs : List Addr} {E : Value → Shared → Prop} {Q : Bool → Shared → Prop} (ra : Reads s.heap a (.tuple xs) as) (rb : Reads s.heap b (.tuple ys) bs) (h : alike (.tuple xs) (.tuple ys) = true)
    (hu : A.units + min (PyData.tuple xs).depth (PyData.tuple ys).depth < cLine) (hq : Q (dataLt (.tuple xs) (.tuple ys)) s) : wpAny (model prog w) A (oneLt' true a b) Q E s := by
  have hal : alikeAll xs ys = true := by simpa [alike] using h
  cases ra with
  | @tuple l o vs n _ as₁ h1 h2 h3 h4 =>
    cases rb with
    | @tuple l' o' vs' n' _ bs₁ k1 k2 k3 k4 =>
      have n1 : vs.size = xs.length := by simpa using SeqAt.ReadsAll.length _ _ _ h4
      have n2 : vs'.size = ys.length := by simpa using SeqAt.ReadsAll.length _ _ _ k4
      rw [dataLt_tuple, ← firstLt_toks xs ys hal, ← n1, ← n2] at hq
      rw [oneLt'_eq]
      simp only [if_true]
      refine wpAny_bind (wpAny_cRoomFor (SeqAt.room_here hu) ?_)
      refine wpAny_bind (wpAny_callSpecialIfBound?_slot (T := "tuple") ⟨_, h1, h2⟩ F.slot_tuple_lt (call_tuple_lt (e := SeqAt.pairEq xs ys) (r := fun j => dataLt (xs.getD j .none) (ys.getD j .none)) ⟨_, h1, h2, _, h3⟩ ⟨_, k1, k2, _, k3⟩ (fun j j1 j2 => ?_) (fun j j1 j2 hj => ?_) ?_))
      · have := eqAt_alikeAll xs ys A.in1 s vs.toList vs'.toList _ _ h4 k4 hal (SeqAt.room_in hu) j (by simpa using j1) (by simpa using j2)
        simpa using this
      · have := rcLt_alikeAll xs ys A.in1 s vs.toList vs'.toList _ _ h4 k4 hal (SeqAt.room_in hu) j (by simpa using j1) (by simpa using j2) hj
        simpa using this
      · exact wpAny_truthy_bool hq
/-- the first items of tuples -/
theorem tup_firsts {M : Model} {E : Value → Shared → Prop} : ∀ {vs : List Value} {ds : List PyData} {Q : List (Option Value) → Shared → Prop}, EachIs (fun v d => ∃ as, Reads s.heap v d as) vs ds → (∀ d ∈ ds, ∃ xs, d = .tuple xs) →
    (∀ fs : List (Option Value), fs.map Option.isSome = ds.map (fun d => !(match d with
      | .tuple [] => true
      | _ => false)) → Q fs s) → wpAny M A (vs.mapM firstOfTuple') Q E s
  | [], _, Q, .nil, _, h => by rw [List.mapM_nil]; exact wpAny_pure (h [] rfl)
  | v :: vs, d :: ds, Q, .cons ⟨as, r⟩ t, hd, h => by
    obtain ⟨xs, rfl⟩ := hd d List.mem_cons_self
    rw [List.mapM_cons]
    cases r with
    | @tuple a o vs' n _ _ h1 h2 h3 h4 =>
      refine wpAny_bind ?_
      rw [kas_first_eq]
      refine wpAny_bind (Looks.here (show Looks M s.heap (typeOf (.ref a)) o.cls from (Looks.ld h1).andThen .now) ?_)
      rw [h2, if_neg (by simp)]
      refine wpAny_bind (listItems_at h1 h3 (wpAny_pure ?_))
      refine wpAny_bind (tup_firsts t (fun d hd' => hd d (List.mem_cons_of_mem _ hd')) fun fs hfs => wpAny_pure (h _ ?_))
      rw [List.map_cons, List.map_cons, hfs]
      congr 1
      have hl := SeqAt.ReadsAll.length _ _ _ h4
      cases xs with
      | nil =>
        have : vs'.size = 0 := by simpa using hl
        rw [Array.getElem?_eq_none (by omega)]
        rfl
      | cons x r =>
        have : vs'.size = r.length + 1 := by simpa using hl
        rw [Array.getElem?_eq_getElem (by omega)]
        rfl
/-- the kind of keys of tuples among which one is empty -/
theorem tup_kind {M : Model} {E : Value → Shared → Prop} {vs : List Value} {ds : List PyData} {Q : SortKind → Shared → Prop} (e : EachIs (fun v d => ∃ as, Reads s.heap v d as) vs ds) (hd : ∀ d ∈ ds, ∃ xs, d = .tuple xs) (h0 : .tuple [] ∈ ds)
    (hq : Q (match ds with
      | .tuple [] :: _ => oneType'
      | _ => general') s) : wpAny M A (keyKind' vs.toArray) Q E s := by
  rw [keyKind'_eq, List.mapM_toArray, map_eq_pure_bind]
  refine wpAny_bind (wpAny_bind (tup_firsts e hd fun fs hfs => wpAny_pure ?_))
  have hall : (fs.toArray.all fun x => x.isSome) = false := by
    rw [Bool.eq_false_iff]
    intro ha
    have ha' : fs.all Option.isSome = true := by simpa using ha
    have : (fs.map Option.isSome).all id = true := by rw [List.all_map]; exact ha'
    rw [hfs, List.all_map] at this
    have z := List.all_eq_true.mp this _ h0
    exact absurd z (by simp)
  rw [if_neg (by rw [hall]; exact Bool.false_ne_true)]
  cases ds with
  | nil => exact absurd h0 (by simp)
  | cons d ds =>
    cases e with
    | @cons v _ vs' _ r t =>
      cases fs with
      | nil => simp at hfs
      | cons f fs =>
        rw [List.map_cons, List.map_cons] at hfs
        obtain ⟨hf, hfs⟩ := List.cons.inj hfs
        obtain ⟨xs, rfl⟩ := hd d List.mem_cons_self
        cases xs with
        | cons x r' =>
          have hs : f.isSome = true := hf
          rw [if_pos (by simpa using hs)]
          exact wpAny_pure hq
        | nil =>
          have hs : f.isSome = false := hf
          have ef : f = none := by
            cases f with
            | none => rfl
            | some _ => cases hs
          subst ef
          rw [if_neg (by simp)]
          rw [oneTypeOnly'_eq, List.mapM_toArray, map_eq_pure_bind]
          have hT : ∀ u ∈ v :: vs', Looks M s.heap (typeOf u) (Value.type "tuple") := fun u hu => by
            obtain ⟨d', hd', as, r'⟩ := (EachIs.cons r t).left u hu
            obtain ⟨xs, rfl⟩ := hd d' hd'
            exact looks_reads r'
          refine wpAny_bind (wpAny_bind (wpAny_bind (kas_mapM (r := Value.type "tuple") _ (fun u hu Q' hq' => (hT u hu).here hq') (wpAny_pure ?_))))
          have hall2 : ((List.map (fun _ => Value.type "tuple") (v :: vs')).toArray.all fun x => x == Value.type "tuple") = true := by
            simp only [List.all_toArray, List.all_map, List.all_eq_true]
            intro _ _
            exact beq_self_eq_true _
          have h02 : (List.map (fun _ => Value.type "tuple") (v :: vs')).toArray[0]? = some (Value.type "tuple") := by simp
          rw [h02]
          simp only [hall2, if_true]
          exact wpAny_pure (wpAny_pure hq)
/-- alike data, of which none is None, can be sorted -/
theorem sorts_any {vs : List Value} {ds : List PyData} (e : EachIs (fun v d => ∃ as, Reads s.heap v d as) vs ds) (hal : AllAlike ds) (hn : ∀ d ∈ ds, d ≠ .none) (hu : ∀ d, d ∈ ds → A.units + d.depth < cLine) : SortsAt prog w A s (dataKind s.heap ds) vs := by
  by_cases h0 : PyData.tuple [] ∈ ds
  · have hd : ∀ d ∈ ds, ∃ xs, d = .tuple xs := fun d hd => by
      have := hal _ h0 d hd
      cases d with
      | tuple xs => exact ⟨xs, rfl⟩
      | _ => exact absurd this (by simp [alike])
    have room : ∀ {d d' : PyData}, d ∈ ds → A.units + min d.depth d'.depth < cLine := fun {d d'} hd => Nat.lt_of_le_of_lt (Nat.add_le_add_left (Nat.min_le_left _ _) _) (hu d hd)
    refine ⟨fun v hv => ?_, _, ?_, fun h2 E Q hq => tup_kind e hd h0 hq⟩
    · obtain ⟨d, hd', as, r⟩ := e.left v hv
      exact ⟨_, dataKind_some hal hd' r⟩
    · have gen : PyProof.Rows.H.LtAt prog w A s (dataKind s.heap ds) general' := by
        intro E x y a b Q ha hb hq
        obtain ⟨d, as, hd1, ra, rfl⟩ := dataKind_inv ha
        obtain ⟨d', as', hd', rb, rfl⟩ := dataKind_inv hb
        show wpAny (model prog w) A (oneLt' false x y) Q E s
        exact oneLt_alike (fun z => by cases z) ra rb (hal d hd1 d' hd') (hn d hd1) (room hd1) hq
      have one : PyProof.Rows.H.LtAt prog w A s (dataKind s.heap ds) oneType' := by
        intro E x y a b Q ha hb hq
        obtain ⟨d, as, hd1, ra, rfl⟩ := dataKind_inv ha
        obtain ⟨d', as', hd', rb, rfl⟩ := dataKind_inv hb
        rw [keyLt'_oneType]
        obtain ⟨xs, rfl⟩ := hd d hd1
        obtain ⟨ys, rfl⟩ := hd d' hd'
        exact oneLt_tuple ra rb (hal _ hd1 _ hd') (room hd1) hq
      split
      · exact one
      · exact gen
  · refine SortsAt.data e hal ?_ hu
    by_cases ht : ∃ xs, PyData.tuple xs ∈ ds
    · obtain ⟨ys, hy⟩ := ht
      refine .inl fun d hd => ?_
      have := hal _ hy d hd
      cases d with
      | tuple xs =>
        cases xs with
        | nil => exact absurd hd h0
        | cons x r => exact ⟨x, r, rfl⟩
      | _ => exact absurd this (by simp [alike])
    · exact .inr fun d hd => ⟨hn d hd, fun xs z => ht ⟨xs, z ▸ hd⟩⟩
end
/-! ### over the layer -/
def okSort (ds : List PyData) : Bool := ds.all fun d => (ds.all fun e => alike d e) && (match d with
  | .none => false
  | _ => true) && decide (d.depth ≤ 60)
theorem okSort_ok {ds : List PyData} (h : okSort ds = true) : AllAlike ds ∧ (∀ d ∈ ds, d ≠ .none) ∧ ∀ d ∈ ds, d.depth ≤ 60 := by
  have g : ∀ d ∈ ds, (ds.all fun e => alike d e) = true ∧ (match d with
      | .none => false
      | _ => true) = true ∧ d.depth ≤ 60 := fun d hd => by
    have := List.all_eq_true.mp h d hd
    rw [Bool.and_eq_true, Bool.and_eq_true] at this
    exact ⟨this.1.1, this.1.2, of_decide_eq_true this.2⟩
  refine ⟨fun d hd e he => List.all_eq_true.mp (g d hd).1 e he, fun d hd z => ?_, fun d hd => (g d hd).2.2⟩
  subst z
  have z2 := (g _ hd).2.1
  cases z2
def sortD (ds : List PyData) : List PyData := KS.msF (dataLe false id) ds.length ds
theorem sortD_eq (ds : List PyData) : sortD ds = ds.mergeSort (dataLe false id) := KS.msF_eq _ _ _ (Nat.le_refl _)
def fSorted : PyData → Option PyData
  | .list ds => if okSort ds = true then some (.list (sortD ds)) else none
  | _ => none
theorem eachOf {α : Type} {R : Value → α → Prop} : ∀ {vs : List V} {us : List Value} {ds : List α}, Vals vs us → vs.length = ds.length → (∀ (i : Nat) v u d, vs[i]? = some v → us[i]? = some u → ds[i]? = some d → RelV v u → R u d) → EachIs R us ds
  | _, _, [], .nil, _, _ => .nil
  | _, _, _ :: _, .nil, h, _ => by simp at h
  | _, _, [], .cons _ _, h, _ => by simp at h
  | _, _, d :: ds, .cons r t, h, f => .cons (f 0 _ _ _ rfl rfl rfl r) (eachOf t (by simpa using h) fun i v u d e1 e2 e3 => f (i + 1) v u d (by simpa using e1) (by simpa using e2) (by simpa using e3))
theorem each_vals : ∀ {us : List Value} {bs : List (PyData × V)}, EachIs (fun u (b : PyData × V) => RelV b.2 u) us bs → Vals (bs.map (·.2)) us
  | _, _, .nil => .nil
  | _, _, .cons r t => .cons r (each_vals t)
theorem rpl_pairs {K m H} : ∀ {bs : List (PyData × V)}, (∀ b ∈ bs, Rp K m H b.1 b.2) → RpL K m H (bs.map (·.1)) (bs.map (·.2))
  | [], _ => .nil
  | b :: bs, h => .cons (h b List.mem_cons_self) (rpl_pairs fun c hc => h c (List.mem_cons_of_mem _ hc))
theorem rpl_zip {K m H} : ∀ {ds vs}, RpL K m H ds vs → ∀ b ∈ ds.zip vs, Rp K m H b.1 b.2
  | _, _, .nil, b, hb => by simp at hb
  | _, _, .cons h t, b, hb => by
    rw [List.zip_cons_cons] at hb
    rcases List.mem_cons.mp hb with rfl | hb
    · exact h
    · exact rpl_zip t b hb
section
variable {X : Cx} {T : Tx}
theorem k_sorted (hu : X.A.units + 64 < cLine) : CallR X (.builtin "sorted") (rA X.K T (g1 fSorted)) := cr1 fun pins s σ H v u Q m h0 x d z I ru S rx e1 e2 q => by
  unfold fSorted at e2
  split at e2
  · rename_i ds
    by_cases hk : okSort ds = true
    · rw [if_pos hk] at e2; cases e2
      obtain ⟨hal, hn, hdp⟩ := okSort_ok hk
      obtain ⟨a, vs, rfl, hs, t⟩ := view_list S rx e1
      cases ru
      obtain ⟨its, rv, pl, hz⟩ := I.list hs
      have hl : vs.length = (ds.zip vs).length := by rw [List.length_zip, t.length, Nat.min_self]
      have zm1 : (ds.zip vs).map Prod.fst = ds := List.map_fst_zip (by rw [t.length]; exact Nat.le_refl _)
      have zm2 : (ds.zip vs).map Prod.snd = vs := List.map_snd_zip (by rw [t.length]; exact Nat.le_refl _)
      have e0 : EachIs (fun u (b : PyData × V) => RelV b.2 u) its (ds.zip vs) := eachOf rv hl fun i v u b ev eu eb r => by
        have : vs[i]? = some b.2 := by rw [← zm2, List.getElem?_map, eb]; rfl
        rw [ev] at this; cases this
        exact r
      have er0 : EachIs (fun u (b : PyData × V) => ∃ as, Reads s.heap u b.1 as) its (ds.zip vs) := by
        refine (each_mem e0).mono fun u b ⟨r, hb⟩ => ?_
        exact Dp.reads I b.1 b.2 u (Rp.dp (rpl_zip t b hb)) r
      have er : EachIs (fun u (b : PyData × V) => ∃ as, Reads (sortingHeap (copyHeap s.heap its) (s.heap.objs.size + 1) its) u b.1 as) its (ds.zip vs) := er0.mono fun _ _ ⟨as, r⟩ => ⟨as, PyProof.Rows.Reads.keeps (fun _ _ => sorting_copy_old) r⟩
      have hal' : AllAlike ((ds.zip vs).map Prod.fst) := by rw [zm1]; exact hal
      have SA : SortsAt X.prog X.w X.A.in1.in1 { s with heap := sortingHeap (copyHeap s.heap its) (s.heap.objs.size + 1) its } (dataKind (sortingHeap (copyHeap s.heap its) (s.heap.objs.size + 1) its) ((ds.zip vs).map Prod.fst)) its :=
        sorts_any (s := { s with heap := sortingHeap (copyHeap s.heap its) (s.heap.objs.size + 1) its }) (each_map (R := fun v d => ∃ as, Reads (sortingHeap (copyHeap s.heap its) (s.heap.objs.size + 1) its) v d as) Prod.fst er) hal' (by rw [zm1]; exact hn) (by
          rw [zm1]
          intro d hd
          have := hdp d hd
          show X.A.units + 2 + d.depth < cLine
          omega)
      refine sorted_vals pl.isList SA (by rw [← rv.length]; exact hz) ?_
      have out := sortVals_data (R := fun u (b : PyData × V) => RelV b.2 u) (enc := Prod.fst) false e0 er hal'
      have vout := each_vals out
      have perm : ((ds.zip vs).mergeSort (dataLe false Prod.fst)).Perm (ds.zip vs) := List.mergeSort_perm _ _
      have esort : ((ds.zip vs).mergeSort (dataLe false Prod.fst)).map Prod.fst = sortD ds := by
        rw [sortD_eq]
        rw [List.map_mergeSort (r := dataLe false Prod.fst) (s := dataLe false id) (f := Prod.fst) (l := ds.zip vs) (fun a _ b _ => rfl), zm1]
      have rp : RpL X.K m H (sortD ds) (((ds.zip vs).mergeSort (dataLe false Prod.fst)).map Prod.snd) := by
        rw [← esort]
        exact rpl_pairs fun b hb => rpl_zip t b (perm.mem_iff.mp hb)
      have lout : (((ds.zip vs).mergeSort (dataLe false Prod.fst)).map Prod.snd).length ≤ sizeLine := by rw [List.length_map, perm.length_eq, ← hl]; exact hz
      have fr : H (s.heap.objs.size + 1) = none := I.hok.fresh (Nat.le_succ _)
      obtain ⟨ep, hat⟩ := sortedAll_at s.heap its (sortVals (dataKind (sortingHeap (copyHeap s.heap its) (s.heap.objs.size + 1) its) ((ds.zip vs).map Prod.fst)) false its its).toArray
      refine ⟨.ref (s.heap.objs.size + 1), upd H (s.heap.objs.size + 1) (.lst (((ds.zip vs).mergeSort (dataLe false Prod.fst)).map Prod.snd)), I.laid (t' := s.toks) (fun b o e => sortedAll_old e) (Nat.le_succ _) ⟨lout, _, ep, vout, hat⟩, rfl, q m _ (Ext.new S fr) (S.new fr) _ (rp_newL S fr rp)⟩
    · rw [if_neg hk] at e2; cases e2
  · cases e2
end
end MV
/-! enumerate over a tuple or a list -/
namespace MV
open PySem PySem.Spec PyProof.Rows L2
open AutoSeq1 (wpAny_loadPart')

/-- what enumerate makes of one value whose iterator is the new object n -/
abbrev eOb (n : Nat) : Obj := { cls := .type "enumerate", data := .fields #[.none, .bool false, .ref n, rawInt 0, .none, .none] }
theorem enum1_meets {v : Value} {o : Obj} {G : Heap → Prop} (B : Begins v o G) :
    Meets (Builtin.«enumerate.__new__» ⟨[.type "enumerate", v], []⟩) fun _ R s => G s.heap ∧ R (.ok (.ret (.ref (s.heap.push o).objs.size))) { s with heap := (s.heap.push o).push (eOb s.heap.objs.size) } := by
  refine .of_wp fun prog w A R s ⟨g, h⟩ => ?_
  cases s with | mk hp gl d tk os => ?_
  have sub := sub_enumerate
  have begun : ∀ {A1 : Around} {E1 Q1 : Value → Shared → Prop}, Q1 (.ref hp.objs.size) ⟨hp.push o, gl, d, tk, os⟩ → wpAny (model prog w) A1 (pyIter v) Q1 E1 ⟨hp, gl, d, tk, os⟩ := fun q => B.iter prog w _ _ _ _ g q
  wp_walk using begun
  refine wpAny_stack_any fun st => wpAny_pure ?_
  split
  case h_1 c _ _ _ _ _ => cases (c == Value.type "enumerate") <;> (wp_walk using begun; exact ⟨_, rfl, h⟩)
  all_goals (wp_walk using begun; exact ⟨_, rfl, h⟩)
theorem enum1_call {prog : Program} {w : World} {A : Around} {E : Value → Shared → Prop} {s : Shared} {v : Value} {o : Obj} {G : Heap → Prop} {Q : Value → Shared → Prop} (B : Begins v o G) (g : G s.heap)
    (h : ∀ h1, IsEnum h1 (s.heap.objs.size + 1) s.heap.objs.size 0 .none → h1.get? s.heap.objs.size = some o → (∀ b x, s.heap.get? b = some x → h1.get? b = some x) → Q (.ref (s.heap.objs.size + 1)) { s with heap := h1 }) :
    wpAny (model prog w) A (call (.type "enumerate") [v]) Q E s := by
  refine callType_new F.called_enumerate (by decide) (F.typeCall_enumerate_1 _) (F.newCall_enumerate_1 _) (fun obj => F.args_object_init_2 obj _) F.entry_enumerate_new (enum1_meets B) ⟨g, ?_⟩
  have z : (s.heap.push o).objs.size = s.heap.objs.size + 1 := Heap.size_push ..
  have e := Heap.get?_push_size (s.heap.push o) (o := eOb s.heap.objs.size) rfl
  rw [z] at e
  show _ ∧ _
  rw [z]
  exact ⟨⟨_, e, rfl⟩, h _ e (Heap.get?_push_of_some _ (Heap.get?_push_size _ B.free)) fun b x q => Heap.get?_push_of_some _ (Heap.get?_push_of_some _ q)⟩
/-- the tuple at a, each item in a new pair -/
def Itet (K : PySem.W.Frag) (a : Addr) : It :=
  ⟨fun i H => ∃ (xs : List V) (x : V), SqT K H a xs ∧ xs[i]? = some x, fun i H v H' => ∃ T x, v = .ref T ∧ H T = none ∧ H' = upd H T (.tup [.int (i : Nat), x]) ∧ ∀ xs, SqT K H a xs → xs[i]? = some x, fun i H => ∃ xs : List V, SqT K H a xs ∧ xs.length ≤ i⟩
theorem turn_enumT {P : Program} {w : World} {K : PySem.W.Frag} {elts : List Expr} {kk : Nat} {tpos : Pos} (a e it : Addr) :
    Turn P w K (.Tuple elts kk tpos) (Itet K a) [e, it] e (fun i h => (∃ old, IsEnum h e it ((i : Nat) : Int) old) ∧ h.IsTupleIter it a i ∧ e ≠ it ∧ a ≠ it ∧ a ≠ e) where
  mem := by simp
  obj := fun i h st b hb => by
    obtain ⟨⟨old, he⟩, ⟨o, ho, hc, hd⟩, _⟩ := st
    have e' : b = e ∨ b = it := by simpa using hb
    rcases e' with z | z
    · rw [z]; exact ⟨_, he, fun v q => nomatch q⟩
    · rw [z]; exact ⟨o, ho, fun v q => by rw [hd] at q; cases q⟩
  keep := fun i h h' st k => let ⟨⟨old, he⟩, hi, hne⟩ := st; ⟨⟨old, k e (by simp) _ he⟩, hi.at fun o q => k it (by simp) o q, hne⟩
  item := by
    intro X hP hw hK hc i pins s σ H E I hf st hg
    subst hP hw hK
    obtain ⟨⟨old, he⟩, hit, hne, hai, hae⟩ := st
    obtain ⟨xs, x, hq, hx⟩ := hg
    obtain ⟨its, rv, p, hz⟩ := I.tuple hq
    obtain ⟨u, hu, ru⟩ := rv.get hx
    have hel : e < s.heap.objs.size := Heap.lt_size he
    have hil : it < s.heap.objs.size := by obtain ⟨_, q, _⟩ := hit; exact Heap.lt_size q
    have hh1 : X.A.in1.handled = none := I.ok.hd hc
    have hi2 : i < its.toArray.size := by
      have := (List.getElem?_eq_some_iff.mp hu).1
      simpa using this
    refine wpAny_pyNext_enum_itemD (Draws.tuple hh1 it a hai its.toArray) he ⟨hit, p⟩ hi2 hne (by simp [hne, Ne.symm hae]) fun x' h' tk hPx ho hst' hT hsz hk => ?_
    have ex : x' = u := by
      have h1 : its.toArray[i]? = some u := by simpa using hu
      have h2 : its.toArray[i]? = some x' := hPx
      rw [h1] at h2
      exact (Option.some.inj h2).symm
    subst ex
    refine ⟨_, rfl, wpAny_letOwnedTupleGo_enum (s := { s with heap := h', toks := tk + 1 }) ho fun h'' he' sb => ?_⟩
    have hT2 : h''.get? s.heap.objs.size = some { cls := .type "tuple", data := .seq #[.int i tk, x'] } := (sb.2 _ (Nat.ne_of_gt hel)).trans hT
    have new : ObjOk X.prog X.w (upd H s.heap.objs.size (.tup [.int (i : Nat), x])) h'' s.heap.objs.size (.tup [.int (i : Nat), x]) :=
      ⟨by show 2 ≤ sizeLine; decide, [.int i tk, x'], .cons ⟨_, rfl⟩ (.cons ru .nil), ⟨_, hT2, rfl, _, rfl⟩⟩
    have I1 : Inv X pins σ (upd H s.heap.objs.size (.tup [.int (i : Nat), x])) { s with heap := h'', toks := tk + 1 } :=
      I.turnedNew (ch := [e, it]) (fun b ob hb q => (sb.2 b (fun z => hb (by simp [z]))).trans (hk b ob (fun z => hb (by simp [z])) (fun z => hb (by simp [z])) q)) hf (Nat.le_refl _) new
    refine ⟨.ref s.heap.objs.size, _, I1, rfl, ⟨_, x, rfl, I.hok.fresh (Nat.le_refl _), rfl, fun ys hy => by rw [I.tuple_inj hy hq]; exact hx⟩, ⟨⟨x', ?_⟩, hst'.1.at fun o q => (sb.2 it (Ne.symm hne)).trans q, hne, hai, hae⟩, fun b hb => ?_⟩
    · have e1 : ((i + 1 : Nat) : Int) = (i : Int) + 1 := by omega
      rw [e1]; exact he'
    · have hb' : b < s.heap.objs.size := by
        have e' : b = e ∨ b = it := by simpa using hb
        rcases e' with z | z
        · rw [z]; exact hel
        · rw [z]; exact hil
      rw [upd_ne (Nat.ne_of_lt hb')]
      exact (hf b hb).1
  done := by
    intro X hP hw hK hc i pins s σ H E I hf st hg
    subst hP hw hK
    obtain ⟨⟨old, he⟩, hit, hne, hai, hae⟩ := st
    obtain ⟨xs, hq, hx⟩ := hg
    obtain ⟨its, rv, p, hz⟩ := I.tuple hq
    obtain ⟨f0, f1, f2, f3, f4, f5⟩ := hf it (by simp)
    have hl := rv.length
    have hh1 : X.A.in1.handled = none := I.ok.hd hc
    -- the walk stands at the end or behind it
    obtain ⟨o, ho, hcl, hd⟩ := id hit
    unfold pyNext
    have hT : s.TypeIs (.ref e) "enumerate" := ⟨_, he, rfl⟩
    refine wpAny_bind (wpAny_attempt (wpAny_callSpecial?_slot (name := Str.ofString "__next__") hT F.slot_enumerate_next
      (wpAny_call_entry F.slot_enumerate_next hT F.entry_enumerate_next ?_ (F.args_enumerate_next_1 _))))
    show wpAny _ _ (field (.ref e) 2 >>= _) _ _ _
    refine wpAny_bind (wpAny_field he rfl (x := .ref it) rfl ?_)
    refine wpAny_bind (wpAny_nextOf_tuple_end hh1 hit p (by simp; omega) fun h' x he' hx' => ?_)
    obtain ⟨o, ho, hc⟩ := hx'
    refine wpAny_bind (wpAny_isInstance (T := "StopIteration") (b := true) ⟨o, ho, hc⟩ isSubtype_stop ?_)
    exact wpAny_pure ⟨rfl, I.turned (t' := s.toks) (fun b o hb q => he' b o hb q) f0 f1 f3 f4 f5⟩
  self := fun A i s Q E st h => let ⟨⟨_, he⟩, _⟩ := st; wpAny_pyIter_enum he h
def iEnumS (K : PySem.W.Frag) (ta : TA) : TI := fun σ H R => ta σ H fun vs H1 => ∃ a, vs = [.ref a] ∧ (((∃ xs, SqL K H1 a xs) ∧ R (Ite K a) H1) ∨ ((∃ xs, SqT K H1 a xs) ∧ R (Itet K a) H1))
theorem pi_enumS {X : Cx} {e : Expr} {ta : TA} {p pos tpos : Pos} {elts : List Expr} {kk : Nat} (hg : Gl X "enumerate") (hm : X.mg "enumerate" = none) (ha : PA X [e] ta) (hs : starEach [e] X.env = [(false, eval e X.env)] := by rfl) :
    PI X (.Tuple elts kk tpos) (.Call (.Name "enumerate" p) [e] [] pos) (iEnumS X.K ta) := by
  refine ⟨fun pins s σ H R I h => ?_⟩
  refine Call_ (ld_blt I hg hm boot_enumerate (PyProof.Rows.callWith_type1 (thn (ha.run pos pins s σ H _ I h) fun us s1 ⟨vs, H1, I1, r1, q1⟩ => ?_) hs rfl))
  obtain ⟨a, ex, ⟨⟨xs, hq⟩, q⟩ | ⟨⟨xs, hq⟩, q⟩⟩ := q1
  · subst ex
    cases r1 with
    | cons r rr =>
      cases rr
      cases r
      obtain ⟨its, rv, p', hz⟩ := I1.list hq
      refine call_enumerate_list p'.isList fun h' he hit hsz hk => wpAny_pyIter_enum he ?_
      have I2 : Inv X pins σ H1 { s1 with heap := h' } := I1.kept (t' := s1.toks) hk
      refine ⟨s1.heap.objs.size + 1, [s1.heap.objs.size + 1, s1.heap.objs.size], _, _, H1, rfl, I2, turn_enum a (s1.heap.objs.size + 1) s1.heap.objs.size, ⟨⟨.none, he⟩, hit, Nat.succ_ne_self _⟩, fun b hb => ?_, q⟩
      have e' : b = s1.heap.objs.size + 1 ∨ b = s1.heap.objs.size := by simpa using hb
      have hle : s1.heap.objs.size ≤ b := by
        rcases e' with z | z
        · rw [z]; exact Nat.le_add_right _ _
        · rw [z]; exact Nat.le_refl _
      exact I1.fpOk hle (I1.hok.fresh hle)
  · subst ex
    cases r1 with
    | cons r rr =>
      cases rr
      cases r
      obtain ⟨its, rv, p', hz⟩ := I1.tuple hq
      have hal : a < s1.heap.objs.size := by obtain ⟨_, q, _⟩ := p'; exact Heap.lt_size q
      refine enum1_call (begins_tuple a its.toArray) (show s1.heap.IsTuple a its.toArray from p') fun h' he hit0 hk => wpAny_pyIter_enum he ?_
      have hit : h'.IsTupleIter s1.heap.objs.size a 0 := ⟨_, hit0, rfl, rfl⟩
      have I2 : Inv X pins σ H1 { s1 with heap := h' } := I1.kept (t' := s1.toks) hk
      refine ⟨s1.heap.objs.size + 1, [s1.heap.objs.size + 1, s1.heap.objs.size], _, _, H1, rfl, I2, turn_enumT a (s1.heap.objs.size + 1) s1.heap.objs.size, ⟨⟨.none, he⟩, hit, Nat.succ_ne_self _, Nat.ne_of_lt hal, Nat.ne_of_lt (Nat.lt_succ_of_lt hal)⟩, fun b hb => ?_, q⟩
      have e' : b = s1.heap.objs.size + 1 ∨ b = s1.heap.objs.size := by simpa using hb
      have hle : s1.heap.objs.size ≤ b := by
        rcases e' with z | z
        · rw [z]; exact Nat.le_add_right _ _
        · rw [z]; exact Nat.le_refl _
      exact I1.fpOk hle (I1.hok.fresh hle)
/-- the pairs of enumerate -/
def enumD (ds : List PyData) : List PyData := (List.range ds.length).map fun i => .tuple [.int (i : Nat), ds.getD i .none]
theorem enumD_length (ds : List PyData) : (enumD ds).length = ds.length := by unfold enumD; rw [List.length_map, List.length_range]
theorem enumD_get {ds : List PyData} {i : Nat} {d : PyData} (h : ds[i]? = some d) : (enumD ds)[i]? = some (.tuple [.int (i : Nat), d]) := by
  have hi := (List.getElem?_eq_some_iff.mp h).1
  unfold enumD
  rw [List.getElem?_map, List.getElem?_range hi]
  show some (PyData.tuple [.int (i : Nat), ds.getD i .none]) = _
  rw [List.getD_eq_getElem?_getD, h]
  rfl
theorem itEnum {K : PySem.W.Frag} {T : Tx} {m : MM} {H : Hp} {ds : List PyData} {vs : List V} {J : It} {R : Hp → List V → Prop} (t : RpL K m H ds vs) (hR : ∀ m' H', ExtF m H m' H' → R H' vs)
    (go : ∀ i H x, R H vs → vs[i]? = some x → J.go i H) (yl : ∀ i H v H', R H vs → J.yld i H v H' → ∃ T x, v = .ref T ∧ H T = none ∧ H' = upd H T (.tup [.int (i : Nat), x]) ∧ vs[i]? = some x) (st : ∀ i H, R H vs → vs.length ≤ i → J.stop i H) : ItOk K T m H ((enumD ds).map .d) J := by
  have hl : ((enumD ds).map Val.d).length = vs.length := by rw [List.length_map, enumD_length, t.length]
  refine ⟨fun m1 h1 H1 i E S hi => ?_, fun m1 h1 H1 i x H' E S hi y => ?_, fun m1 h1 H1 i E S hi => st i H1 (hR m1 H1 E) (by omega)⟩
  · have hv : i < vs.length := by omega
    exact go i H1 vs[i] (hR m1 H1 E) (by simp [hv])
  · obtain ⟨T1, x1, rfl, hT, rfl, e1⟩ := yl i H1 x H' (hR m1 H1 E) y
    obtain ⟨d, ed, r⟩ := t.getV e1
    exact ⟨.d (.tuple [.int (i : Nat), d]), m1, by rw [List.getElem?_map, enumD_get ed]; rfl, Ext.new S hT, S.new hT, rp_newT S hT (.cons (.int _) (.cons (r.monoF E) .nil))⟩
section
variable {X : Cx} {T : Tx} {W : WX} {e : Expr} {pos p tpos : Pos} {cr : CA}
def iEnumF : List Val → O (List Val) := fun xs h => match xs with
  | [.d (.list ds)] => some ((enumD ds).map .d, h)
  | [.d (.tuple ds)] => some ((enumD ds).map .d, h)
  | _ => none
theorem ri_enum {elts : List Expr} {kk : Nat} (hg : Gl X "enumerate") (hm : X.mg "enumerate" = none) (ha : RA X T W [e] cr) (hs : starEach [e] X.env = [(false, eval e X.env)] := by rfl) : RI X T W (.Tuple elts kk tpos) (.Call (.Name "enumerate" p) [e] [] pos) (cIterA iEnumF cr) := ⟨PI.imp (pi_enumS hg hm ha.pa hs) fun σ H R ⟨m, h, σa, S, RS, A⟩ => ⟨m, h, σa, S, RS, A.bind.mono fun m1 h1 H1 x E S1 A1 v r => by
  obtain ⟨xs, h2, e, q⟩ := A1.lifted
  unfold iEnumF at e
  split at e
  · cases e
    obtain ⟨w, rfl, rw'⟩ := paired1 r
    rename_i ds
    cases (show Rp X.K m1 H1 (.list ds) w from rw') with
    | @lst a vs _ hz t =>
      exact ⟨_, rfl, .inl ⟨⟨_, (TrL.fz hz).sq⟩, q m1 H1 (Ext.refl _ _) S1 _ (itEnum (R := fun H vs => SqL X.K H a vs) t (fun m' H' E => (TrL.fz (hz.monoF E)).sq) (fun i H x hr hx => ⟨vs, x, hr, hx⟩)
        (fun i H v H' hr y => by obtain ⟨T, x, a1, a2, a3, a4⟩ := y; exact ⟨T, x, a1, a2, a3, a4 vs hr⟩) fun i H hr hi => ⟨vs, hr, hi⟩)⟩⟩
  · cases e
    obtain ⟨w, rfl, rw'⟩ := paired1 r
    rename_i ds
    cases (show Rp X.K m1 H1 (.tuple ds) w from rw') with
    | @tup a vs _ hz t =>
      exact ⟨_, rfl, .inr ⟨⟨_, hz.sq⟩, q m1 H1 (Ext.refl _ _) S1 _ (itEnum (R := fun H vs => SqT X.K H a vs) t (fun m' H' E => (hz.monoF E).sq) (fun i H x hr hx => ⟨vs, x, hr, hx⟩)
        (fun i H v H' hr y => by obtain ⟨T, x, a1, a2, a3, a4⟩ := y; exact ⟨T, x, a1, a2, a3, a4 vs hr⟩) fun i H hr hi => ⟨vs, hr, hi⟩)⟩⟩
  · cases e⟩⟩
end
end MV
/-! any, all over a generator expression whose element may call -/
namespace MV
open PySem PySem.Spec PyProof.Rows L2 GenW

/-! ### the builtins' loops -/
section
variable {prog : Program} {w : World} {A : Around} {R : Result → Shared → Prop} {I : Addr} {St : Nat → Shared → Prop}
/-- what each next of the walked thing brings: a bool at which the loop goes on, or the answer -/
def BTurn (prog : Program) (w : World) (A : Around) (R : Bool → Shared → Prop) (I : Addr) (st : Bool) (St : Nat → Shared → Prop) : Prop := ∀ n s, St n s → ∀ E : Value → Shared → Prop, wpAny (model prog w) A (pyNext (.ref I)) (fun r s' => match r with
  | none => R (!st) s'
  | some v => ∃ b, v = .bool b ∧ (if b = st then R st s' else ∃ m, m < n ∧ St m s')) E s
theorem all_turns {Rb : Bool → Shared → Prop} (T : BTurn prog w A.in1 Rb I false St) (hR : ∀ b s, Rb b s → R (.ok (.ret (.bool b))) s) : ∀ n s, St n s → codeAny (model prog w) A (.builtin "all.loop" ⟨[.ref I], []⟩) R s := by
  intro n
  induction n using Nat.strongRecOn with
  | ind n ih =>
    intro s hs
    refine codeAny_builtin F.entry_all_loop ?_
    rw [Around.under_plainId F.plain_all_loop _]
    show wpAny _ A.in1 (pyNext (.ref I) >>= _) _ _ s
    refine wpAny_bind (wpAny_mono (T n s hs _) (fun r s' h => ?_) fun _ _ e => e)
    cases r with
    | none => exact wpAny_bind (wpAny_rule (wpAny_pure (hR _ _ h)))
    | some v =>
      obtain ⟨b, rfl, h⟩ := h
      refine wpAny_bind (wpAny_holding (wpAny_truthy_bool ?_))
      refine wpAny_bind (wpAny_letGo ?_)
      cases b with
      | true =>
        simp only [Bool.true_eq_false, if_false] at h
        obtain ⟨m, hm, h⟩ := h
        simp only [if_true]
        exact wpAny_pure ⟨plainId_quiet F.plain_all_loop _, ih m hm s' h⟩
      | false =>
        simp only [if_true] at h
        simp only [Bool.false_eq_true, if_false]
        exact wpAny_bind (wpAny_rule (wpAny_pure (hR _ _ h)))
theorem any_turns {Rb : Bool → Shared → Prop} (T : BTurn prog w A.in1 Rb I true St) (hR : ∀ b s, Rb b s → R (.ok (.ret (.bool b))) s) : ∀ n s, St n s → codeAny (model prog w) A (.builtin "any.loop" ⟨[.ref I], []⟩) R s := by
  intro n
  induction n using Nat.strongRecOn with
  | ind n ih =>
    intro s hs
    refine codeAny_builtin F.entry_any_loop ?_
    rw [Around.under_plainId F.plain_any_loop _]
    show wpAny _ A.in1 (pyNext (.ref I) >>= _) _ _ s
    refine wpAny_bind (wpAny_mono (T n s hs _) (fun r s' h => ?_) fun _ _ e => e)
    cases r with
    | none => exact wpAny_bind (wpAny_rule (wpAny_pure (hR _ _ h)))
    | some v =>
      obtain ⟨b, rfl, h⟩ := h
      refine wpAny_bind (wpAny_holding (wpAny_truthy_bool ?_))
      refine wpAny_bind (wpAny_letGo ?_)
      cases b with
      | false =>
        simp only [Bool.false_eq_true, if_false] at h
        obtain ⟨m, hm, h⟩ := h
        simp only [Bool.false_eq_true, if_false]
        exact wpAny_pure ⟨plainId_quiet F.plain_any_loop _, ih m hm s' h⟩
      | true =>
        simp only [if_true] at h
        simp only [if_true]
        exact wpAny_bind (wpAny_rule (wpAny_pure (hR _ _ h)))
theorem call_all_turns {a : Addr} {E : Value → Shared → Prop} {Q : Value → Shared → Prop} {s : Shared} (T : BTurn prog w A.in1 (fun b s' => Q (.bool b) s') a false St)
    (h : wpAny (model prog w) A.in1 (pyIter (.ref a)) (fun it s2 => it = .ref a ∧ ∃ n, St n s2) E s) : wpAny (model prog w) A (call (.builtin "all") [.ref a]) Q E s := by
  refine call_function_tree F.kind_all F.plain_all F.entry_all (F.args_all1 _) ?_
  unfold Builtin.«all»
  refine wpAny_bind (m := oneArg "all" _) (wpAny_pure ?_)
  refine wpAny_bind (wpAny_mono h (fun it s₂ h₂ => ?_) fun _ _ e => e)
  obtain ⟨rfl, n, hs⟩ := h₂
  exact wpAny_pure ⟨plainId_quiet F.plain_all_loop _, all_turns T (fun b s q => q) n s₂ hs⟩
theorem call_any_turns {a : Addr} {E : Value → Shared → Prop} {Q : Value → Shared → Prop} {s : Shared} (T : BTurn prog w A.in1 (fun b s' => Q (.bool b) s') a true St)
    (h : wpAny (model prog w) A.in1 (pyIter (.ref a)) (fun it s2 => it = .ref a ∧ ∃ n, St n s2) E s) : wpAny (model prog w) A (call (.builtin "any") [.ref a]) Q E s := by
  refine call_function_tree F.kind_any F.plain_any F.entry_any (F.args_any1 _) ?_
  unfold Builtin.«any»
  refine wpAny_bind (m := oneArg "any" _) (wpAny_pure ?_)
  refine wpAny_bind (wpAny_mono h (fun it s₂ h₂ => ?_) fun _ _ e => e)
  obtain ⟨rfl, n, hs⟩ := h₂
  exact wpAny_pure ⟨plainId_quiet F.plain_any_loop _, any_turns T (fun b s q => q) n s₂ hs⟩
end

/-! ### the generator's own context -/
abbrev gcode (elt tg iter : Expr) (ifs : List Expr) (scope : Scope) (pos : Pos) (it : Addr) (cenv : Env) : Code := .compLoop (.GeneratorExp elt [⟨tg, iter, ifs, 0⟩] scope pos) 0 (.ref it) .none cenv
abbrev genX (X : Cx) (s : Shared) (H : Hp) (cenv : Env) (c : Code) (fp : List Addr) : Cx := { X with A := X.A.in1.in1.over c [], s_0 := s, H_0 := H, env := cenv, outer := X.stack, stack := cenv :: X.stack, ex := fp, fn := fun _ => false, pn := [], xe := fun _ _ => False }
theorem gen_room {X : Cx} {k : Nat} {elt tg iter : Expr} {ifs : List Expr} {scope : Scope} {pos : Pos} {it : Addr} {cenv : Env} (r : Room (k + 1) X.A) : Room k (X.A.in1.in1.over (gcode elt tg iter ifs scope pos it cenv) []) := by
  refine ⟨r.hd, ?_, ?_⟩
  · have := r.dp
    show X.A.depth + 0 + 1 + 3 * k + 5 < _
    omega
  · have := r.un
    show X.A.units + 1 + 1 + 0 + 3 + 16 * k + 200 < _
    omega
theorem gen_frames {X : Cx} {elt tg iter : Expr} {ifs : List Expr} {scope : Scope} {pos : Pos} {it : Addr} {cenv : Env} (h : X.A.frames = some X.stack) : (X.A.in1.in1.over (gcode elt tg iter ifs scope pos it cenv) []).frames = some (cenv :: X.stack) := by
  show pushEnvs [cenv] (pushEnvs [] X.A.frames) = _
  rw [h]
  rfl

/-- the names of a generator expression -/
structure GnOk (N : List Str) (sc scope : Scope) (own : List (Str × Nat)) : Prop where
  blk : BlkOk N sc scope own
  nocell : ∀ y ∈ scope.names, y.2 ≠ .cell
  co : scope.isCoroutine = false
  dot : scope.names.lookup (".0" : Str) = some NameKind.local
def gnC (N : List Str) (sc scope : Scope) (own : List (Str × Nat)) : Bool :=
  blkC N sc scope own && ((scope.names.all fun y => match y.2 with | .cell => false | _ => true) && (!scope.isCoroutine && (match scope.names.lookup (".0" : Str) with | some .local => true | _ => false)))
theorem gnOk_by {N : List Str} {sc scope : Scope} {own : List (Str × Nat)} (h : gnC N sc scope own = true) : GnOk N sc scope own := by
  unfold gnC at h
  simp only [Bool.and_eq_true, List.all_eq_true, Bool.not_eq_true'] at h
  obtain ⟨h1, h2, h3, h4⟩ := h
  refine ⟨blkOk_by h1, fun y hy e => ?_, h3, ?_⟩
  · have q := h2 y hy
    rw [e] at q
    cases q
  · split at h4
    · assumption
    · cases h4
theorem blk_capt {N : List Str} {sc scope : Scope} {own : List (Str × Nat)} {cells : List (Str × Addr)} (ok : BlkOk N sc scope own) (has : ∀ y, (sc.names.lookup y = some .cell ∨ sc.names.lookup y = some .free) → ∃ c, cells.lookup y = some c) :
    ∀ y ∈ scope.names, y.2 = .free → ∃ c, cells.lookup y.1 = some c := fun y hy e => has _ (ok.free y hy e)
section
variable {X : Cx} {pins : List (Addr × Obj)} {σ : L2.St} {H : Hp} {s : Shared}
theorem gen_start {scope : Scope} {own : List (Str × Nat)} {fp : List Addr} {cenv : Env} {c : Code} {code : Value} {h5 : Heap} {g5 : Array GenState} {d5 : Drawn} {t5 : Nat} {m : Str → Option Value} {a : Addr} {o : Obj}
    (I : Inv X pins σ H s) (ok : GnOk X.N X.env.scope scope own) (hN : X.N.Nodup) (hfp : ∀ b ∈ fp, FpOk X pins H b ∧ b < s.heap.objs.size)
    (he : cenv = genEnv scope (cloFrom X.env.cells scope.names []) s.heap.objs.size code builtinsNs X.env) (hk : ∀ b o, s.heap.get? b = some o → h5.get? b = some o) (hn : h5.Ns s.heap.objs.size m) (hg : AllBare g5)
    (hf : (X.A.in1.in1.over c []).frames = some (cenv :: X.stack)) (ha : a = s.heap.objs.size + 1) (ho : h5.get? a = some o) (hd : ∀ v, o.data ≠ .cell v) :
    Inv (genX X s H cenv c fp) [(a, o)] (wipe σ (own.map (·.2))) H { s with heap := h5, gens := g5, drawn := d5, toks := t5 } := by
  have hL : cenv.locals = s.heap.objs.size := by rw [he]; rfl
  have hsc : cenv.scope = scope := by rw [he]; rfl
  have hcl : cenv.cells = cloFrom X.env.cells scope.names [] := by rw [he]; rfl
  have capt : ∀ y ∈ scope.names, y.2 = .free → ∃ c, X.env.cells.lookup y.1 = some c := blk_capt ok.blk fun y h => I.ok.has y h
  have cm : ∀ {y c}, cenv.cells.lookup y = some c → X.env.cells.lookup y = some c ∧ (y, NameKind.free) ∈ scope.names := fun {y c} e => by
    rw [hcl] at e
    rcases cloFrom_mem (PySem.mem_of_lookup e) with hm | ⟨h1, rfl⟩
    · cases hm
    · obtain ⟨c, hc⟩ := capt _ h1 rfl
      have hc : X.env.cells.lookup y = some c := hc
      rw [hc]
      exact ⟨rfl, h1⟩
  have look : ∀ {y}, scope.names.lookup y = some .free → ∃ c, cenv.cells.lookup y = some c ∧ X.env.cells.lookup y = some c := fun {y} hl => by
    obtain ⟨c', e'⟩ := mem_lookup (cloFrom_has (cells := X.env.cells) (acc := []) (PySem.mem_of_lookup hl))
    rw [← hcl] at e'
    exact ⟨c', e', (cm e').1⟩
  have clt : ∀ {y c}, cenv.cells.lookup y = some c → c < s.heap.objs.size := fun {y c} e => by
    obtain ⟨v, z⟩ := I.cell _ _ (cm e).1
    exact z.lt
  have fsz : ∀ b ∈ frs X.stack, b < s.heap.objs.size := fun b hb => by
    obtain ⟨_, o', ho', _⟩ := I.stack.mem hb
    exact Heap.lt_size ho'
  have okG : (genX X s H cenv c fp).Ok := by
    refine ⟨I.ok.mod, by show cenv.scope.kind = _; rw [hsc]; exact ok.blk.kind, by show cenv.globals = _; rw [he]; exact I.ok.glob, by show cenv.builtins = _; rw [he]; rfl, by show s.heap.objs.size ≤ cenv.locals; rw [hL]; exact Nat.le_refl _,
      fun y z c e1 e2 => I.ok.inj y z c (cm e1).1 (cm e2).1, fun y hy => ?_, fun y c z _ => (by cases z), I.ok.hd, hf, .inr ⟨rfl, by show cenv.frame = some cenv.locals; rw [he]; rfl⟩, fun b hb => ⟨?_, fun y c e z => ?_⟩, I.bs, Nat.le_trans I.ok.bsz I.sz, fun b o e hb => ?_, fun b hb z => ?_, I.stack, I.stkFree⟩
    · show ∃ c, cenv.cells.lookup y = some c
      have key : ∀ k, cenv.kindOf y = some k → (k = .cell ∨ k = .free) → ∃ c, cenv.cells.lookup y = some c := fun k hk hk' => by
        unfold Env.kindOf at hk
        rw [hsc] at hk
        rcases hk' with rfl | rfl
        · exact absurd rfl (ok.nocell _ (PySem.mem_of_lookup hk))
        · obtain ⟨c, h1, _⟩ := look hk
          exact ⟨c, h1⟩
      rcases hy with hy | hy
      · exact key _ hy (.inl rfl)
      · exact key _ hy (.inr rfl)
    · show b ≠ cenv.locals
      rw [hL]; exact Nat.ne_of_lt (hfp b hb).2
    · exact (hfp b hb).1.2.2.2.2.1 y c (cm e).1 z
    · rcases (hfp b hb).1.2.2.2.1 with z | z
      · exact I.ok.noex b o e z
      · exact absurd (Nat.lt_of_lt_of_le (Heap.lt_size e) (Nat.le_trans I.ok.bsz z)) (Nat.lt_irrefl _)
    · rcases List.mem_cons.mp (I.stkSub b z) with z | z
      · exact (hfp b hb).1.2.1 z
      · exact (hfp b hb).1.2.2.1 z
  refine ⟨okG, rfl, hg, Un.kept hk, ⟨m, ?_, fun i y av e1 e2 e3 => ?_⟩, fun y c e => ?_, ?_, fun y c e => I.freeC y c (cm e).1, fun p hp => ?_, I.hok.kept hk, by rw [wipe_length]; exact I.len⟩
  · show Heap.Ns _ cenv.locals _
    rw [hL]
    exact hn
  · obtain ⟨e2, hne⟩ := wipe_some e2
    have hfr : scope.names.lookup y = some .free := by
      have e3 : Vis cenv.scope y := e3
      rw [hsc] at e3
      have no : ∀ k, scope.names.lookup y = some k → ¬ (k = .local ∨ k = .cell) := fun k e hh => by
        rcases ok.blk.own _ (PySem.mem_of_lookup e) hh with e' | e'
        · obtain ⟨p, hp, hpy⟩ := List.mem_map.mp e'
          have e3 := ok.blk.ix p hp
          have : p.1 = y := hpy
          rw [this] at e3
          exact hne (List.mem_map.mpr ⟨p, hp, nodup_ix hN e3 e1⟩)
        · exact e' (List.mem_of_getElem? e1)
      rcases e3 with e3 | e3 | e3
      · exact absurd (.inl rfl) (no _ e3)
      · exact absurd (.inr rfl) (no _ e3)
      · exact e3
    obtain ⟨m', hn', hl⟩ := I.loc
    have hvis : Vis X.env.scope y := (ok.blk.free _ (PySem.mem_of_lookup hfr) rfl).elim (fun k => .inr (.inl k)) (fun k => .inr (.inr k))
    obtain ⟨w, r, q⟩ := hl i y av e1 e2 hvis
    obtain ⟨c', h1, h2⟩ := look hfr
    refine ⟨w, r, .inr ⟨.inr (by show Env.kindOf cenv y = _; unfold Env.kindOf; rw [hsc]; exact hfr), c', h1, ?_⟩⟩
    rcases q with ⟨k, _⟩ | ⟨_, c2, e', z⟩
    · have k : X.env.scope.names.lookup y = some .local := k
      rcases ok.blk.free _ (PySem.mem_of_lookup hfr) rfl with k' | k' <;> rw [show X.env.scope.names.lookup y = _ from k'] at k <;> cases k
    · rw [h2] at e'; cases e'
      obtain ⟨oc, hoc, hcd⟩ := z
      exact ⟨oc, hk _ _ hoc, hcd⟩
  · obtain ⟨v, oc, hoc, hcd⟩ := I.cell y c (cm e).1
    exact ⟨v, oc, hk _ _ hoc, hcd⟩
  · show H cenv.locals = none
    rw [hL]
    exact I.hok.fresh (Nat.le_refl _)
  · have e : p = (a, o) := by simpa using (show p ∈ ([] : List (Addr × Obj)) ++ [(a, o)] from hp)
    subst e
    refine ⟨ho, I.hok.fresh (by rw [ha]; exact Nat.le_succ _), ?_, fun z => ?_, hd⟩
    · show a ≠ cenv.locals
      rw [hL, ha]; exact Nat.succ_ne_self _
    · have := fsz a z
      rw [ha] at this
      exact absurd this (Nat.not_lt.mpr (Nat.le_succ _))
end

theorem inv_like {X : Cx} {pins : List (Addr × Obj)} {σ : L2.St} {H : Hp} {s s' : Shared} (I : Inv X pins σ H s) (hh : s'.heap = s.heap) (ho : s'.os = s.os) (hg : AllBare s'.gens) : Inv X pins σ H s' := by
  obtain ⟨h', g', d', t', o'⟩ := s'
  cases hh
  cases ho
  exact ⟨I.ok, I.os, hg, I.base, I.loc, I.cell, I.free, I.freeC, I.pin, I.hok, I.len⟩
/-- all stands but the table of generators and the tokens -/
def Like (s s' : Shared) : Prop := s'.heap = s.heap ∧ s'.os = s.os ∧ AllBare s'.gens
theorem bare_set {s : Shared} {g : Nat} {x : GenState} (h : AllBare s.gens) (hx : x.bare = true) : AllBare (s.setGen g x).gens := by
  intro y hy
  have hy : y ∈ (s.gens.setIfInBounds g x) := hy
  rcases Array.mem_or_eq_of_mem_setIfInBounds hy with q | q
  · exact h y q
  · rw [q]; exact hx
theorem setGen_at {s : Shared} {g : Nat} {x : GenState} (h : g < s.gens.size) : (s.setGen g x).gens[g]? = some x := by
  simp [Shared.setGen, h]
/-- any, all of a generator expression (st: the bool at which the loop stops): W by the turn and a measure, Nx what a turn is to reach -/
def tGx (P : Addr) (st : Bool) (wi : TI) (g : TG) (tt : TT) (te : TE) (vs : List Nat) : TE := fun σ H Q => wi σ H fun J H0 => GxR.TabG H0 P ∧ ∀ H1, GxR.Tabbed P H0 H1 → ∃ W : Nat → Nat → Hp → Prop, (∃ m, W 0 m H1) ∧ ∀ i m H, W i m H →
  (J.stop i H ∧ Q (.bl (!st)) H) ∨ (J.go i H ∧ ∃ Nx : Hp → Prop, (∀ H', Nx H' → ∃ m', m' < m ∧ W (i + 1) m' H') ∧ ∀ x H', J.yld i H x H' → g x (wipe σ vs) H' fun σ2 H2 => wipe σ2 vs = wipe σ vs ∧ tt σ2 H2 fun b H3 =>
    if b = true then te σ2 H3 fun y H4 => ∃ b', y = .bl b' ∧ (if b' = st then Q (.bl st) H4 else Nx H4) else Nx H3)
section
variable {X : Cx} {elt tg iter : Expr} {ifs : List Expr} {scope : Scope} {pos : Pos} {it : Addr} {cenv : Env} {s0 : Shared} {H0 : Hp} {fp : List Addr} {tn : Nat → Heap → Prop} {J : It} {g : TG} {tt : TT} {te : TE} {vs : List Nat} {σ : L2.St} {Q : VK} {W : Nat → Nat → Hp → Prop} {st : Bool} {a : Addr} {o : Obj}
abbrev gX (X : Cx) (s0 : Shared) (H0 : Hp) (elt tg iter : Expr) (ifs : List Expr) (scope : Scope) (pos : Pos) (it : Addr) (cenv : Env) (fp : List Addr) : Cx := genX X s0 H0 cenv (gcode elt tg iter ifs scope pos it cenv) fp
/-- where the generator stands between two turns -/
def GI (G : Cx) (a : Addr) (o : Obj) (τ : L2.St) (tn : Nat → Heap → Prop) (fp : List Addr) (W : Nat → Nat → Hp → Prop) (i n : Nat) (s : Shared) : Prop :=
  ∃ H', Inv G [(a, o)] τ H' s ∧ tn i s.heap ∧ (∀ b ∈ fp, H' b = none) ∧ W i n H'
def gY (G : Cx) (a : Addr) (o : Obj) (τ : L2.St) (tn : Nat → Heap → Prop) (fp : List Addr) (W : Nat → Nat → Hp → Prop) (st : Bool) (Q : VK) : Protocol := fun n s₀ v s kap =>
  ∃ b : Bool, v = .bool b ∧ AllBare s.gens ∧ (if b = st then ∃ σ' H' ps, Inv G ([(a, o)] ++ ps) σ' H' s ∧ Q (.bl st) H' else (∃ i m, m < n + 1 ∧ GI G a o τ tn fp W i m s) ∧ ∀ s'', Like s s'' → kap (.send .none) s'')
def gP (G : Cx) (a : Addr) (o : Obj) (st : Bool) (Q : VK) : Nat → Shared → Shared → Prop := fun _ _ s => ∃ σ' H', Inv G [(a, o)] σ' H' s ∧ Q (.bl (!st)) H'
def gR (G : Cx) (a : Addr) (o : Obj) (st : Bool) (Q : VK) : GenEnd := fun n s₀ r s => r = .ok .next ∧ gP G a o st Q n s₀ s
theorem seg_turns (hc : X.calm = true) (T : Turn X.prog X.w X.K tg J fp it tn) (hco : cenv.scope.isCoroutine = false) (ha : a ∉ fp)
    (hg : PG (gX X s0 H0 elt tg iter ifs scope pos it cenv fp) tg g) (ht : PTs (gX X s0 H0 elt tg iter ifs scope pos it cenv fp) ifs tt) (he : PE (gX X s0 H0 elt tg iter ifs scope pos it cenv fp) elt te)
    (turn : ∀ i m H, W i m H → (J.stop i H ∧ Q (.bl (!st)) H) ∨ (J.go i H ∧ ∃ Nx : Hp → Prop, (∀ H', Nx H' → ∃ m', m' < m ∧ W (i + 1) m' H') ∧ ∀ x H', J.yld i H x H' → g x (wipe σ vs) H' fun σ2 H2 => wipe σ2 vs = wipe σ vs ∧ tt σ2 H2 fun b H3 =>
      if b = true then te σ2 H3 fun y H4 => ∃ b', y = .bl b' ∧ (if b' = st then Q (.bl st) H4 else Nx H4) else Nx H3)) :
    ∀ (n i : Nat) (s₀ s : Shared) (N : Nat), n + 1 ≤ N → GI (gX X s0 H0 elt tg iter ifs scope pos it cenv fp) a o (wipe σ vs) tn fp W i n s →
      Seg (model X.prog X.w) X.A.in1.in1 (gR (gX X s0 H0 elt tg iter ifs scope pos it cenv fp) a o st Q) (gY (gX X s0 H0 elt tg iter ifs scope pos it cenv fp) a o (wipe σ vs) tn fp W st Q) N s₀ (gcode elt tg iter ifs scope pos it cenv) ((model X.prog X.w).den (gcode elt tg iter ifs scope pos it cenv)) [] s := by
  have stat : ∀ {σ' : L2.St} {H' : Hp} {s' : Shared}, Inv (gX X s0 H0 elt tg iter ifs scope pos it cenv fp) [(a, o)] σ' H' s' → (∀ b ∈ fp, H' b = none) → ∀ b ∈ fp, FpOk (gX X s0 H0 elt tg iter ifs scope pos it cenv fp) [(a, o)] H' b := fun {σ' H' s'} I' hn b hb =>
    ⟨hn b hb, (I'.ok.exf b hb).1, I'.ok.exfs b hb, .inl hb, fun x c e => (I'.ok.exf b hb).2 x c e, fun p hp => by
      have e : p = (a, o) := by simpa using (show p ∈ ([] : List (Addr × Obj)) ++ [(a, o)] from hp)
      subst e
      exact fun z => ha (by rw [show a = b from z]; exact hb)⟩
  intro n
  induction n using Nat.strongRecOn with
  | ind n ih =>
    intro i s₀ s N hN hGI
    obtain ⟨H5, I5, st5, n5, w5⟩ := hGI
    show Seg _ _ _ _ N s₀ _ ((compTurn (.GeneratorExp elt [⟨tg, iter, ifs, 0⟩] scope pos) 0 (.ref it) .none cenv).onRaise (leaving cenv)) [] s
    rw [compTurn_gen, Sem.onRaise_eq_wrap]
    refine seg_bind_wrap (wpAny_standAt ?_)
    rcases turn i n H5 w5 with ⟨stop, qq⟩ | ⟨go, Nx, hNx, step⟩
    · refine seg_bind_wrap (wpAny_mono (T.done (gX X s0 H0 elt tg iter ifs scope pos it cenv fp) rfl rfl rfl hc i [(a, o)] s _ H5 (fun _ _ => False) I5 (stat I5 n5) st5 stop) (fun r s6 hr => ?_) fun _ _ e => e.elim)
      obtain ⟨hr, I6⟩ := hr
      subst hr
      exact seg_end (.ok .next) ⟨rfl, _, H5, I6, qq⟩
    · refine seg_bind_wrap (wpAny_mono (T.item (gX X s0 H0 elt tg iter ifs scope pos it cenv fp) rfl rfl rfl hc i [(a, o)] s _ H5 (fun _ _ => False) I5 (stat I5 n5) st5 go) (fun r s6 hr => ?_) fun _ _ e => e.elim)
      obtain ⟨u, hr, h6⟩ := hr
      subst hr
      refine seg_bind_wrap (wpAny_mono h6 (fun _ s7 h7 => ?_) fun _ _ e => e.elim)
      obtain ⟨x, H7, I7, r7, y7, st7, n7⟩ := h7
      have I7' := I7.pinned (stat I7 n7) (T.obj _ _ st7)
      refine seg_bind_wrap (wpAny_mono (hg.run _ s7 _ H7 x u _ I7' r7 (step x H7 y7)) (fun _ s8 h8 => ?_) fun _ _ e => e.elim)
      obtain ⟨σ8, H8, I8, hw8, q8⟩ := h8
      refine seg_bind_wrap (wpAny_mono (ht.run _ s8 σ8 H8 _ I8 q8) (fun b s9 h9 => ?_) fun _ _ e => e.elim)
      obtain ⟨H9, I9, q9⟩ := h9
      have fin : ∀ {s' : Shared} {H' : Hp}, Inv (gX X s0 H0 elt tg iter ifs scope pos it cenv fp) ([(a, o)] ++ pinsAt fp s7.heap) σ8 H' s' → Nx H' → ∃ m, m < n ∧ GI (gX X s0 H0 elt tg iter ifs scope pos it cenv fp) a o (wipe σ vs) tn fp W (i + 1) m s' := fun {s' H'} I' nx => by
        obtain ⟨m', hm, w'⟩ := hNx H' nx
        have pin' : ∀ b ∈ fp, ∀ o, s7.heap.get? b = some o → s'.heap.get? b = some o ∧ H' b = none := fun b hb o e =>
          let z := I'.pin (b, o) (List.mem_append_right _ (List.mem_append_right _ (mem_pinsAt hb e)))
          ⟨z.1, z.2.1⟩
        have hl : (wipe σ vs).length = σ8.length := by rw [← hw8, wipe_length]
        refine ⟨m', hm, H', (I'.unpinned (pins := [(a, o)])).weak hl (fun j v e => ?_), T.keep _ _ _ st7 fun b hb o e => (pin' b hb o e).1, fun b hb => ?_, w'⟩
        · rw [← hw8] at e
          exact (wipe_some e).1
        · obtain ⟨o, e, _⟩ := T.obj _ _ st7 b hb
          exact (pin' b hb o e).2
      cases b with
      | false =>
        simp only [Bool.false_eq_true, if_false] at q9 ⊢
        obtain ⟨m, hm, h'⟩ := fin I9 q9
        exact seg_again rfl (ih m hm (i + 1) s₀ s9 N (by omega) h')
      | true =>
        simp only [if_true] at q9 ⊢
        have hy : ∀ v, yieldOut cenv v = yieldValue v := fun v => by simp only [yieldOut, hco, Bool.false_eq_true, if_false]
        simp only [hy]
        rw [Sem.bind_eq_wrap', Sem.bind_eq_wrap', Sem.wrap_wrap, Sem.wrap_wrap]
        refine seg_wrap (wpAny_mono (he.run _ s9 σ8 H9 _ I9 q9) (fun y s10 h10 => ?_) fun _ _ e => e.elim)
        obtain ⟨yv, H10, I10, r10, b', eb, q10⟩ := h10
        subst eb
        obtain rfl : y = Value.bool b' := r10
        obtain ⟨N', rfl⟩ : ∃ N', N = N' + 1 := ⟨N - 1, by omega⟩
        refine seg_at (seg_yield rfl rfl rfl ⟨b', rfl, I10.bare, ?_⟩)
        by_cases hb : b' = st
        · rw [if_pos hb] at q10 ⊢
          exact ⟨σ8, H10, _, I10, q10⟩
        · rw [if_neg hb] at q10 ⊢
          obtain ⟨m, hm, h'⟩ := fin I10 q10
          refine ⟨⟨i + 1, m, by omega, h'⟩, fun s'' hl => ?_⟩
          refine seg_again rfl (ih m hm (i + 1) s'' s'' N' (by omega) ?_)
          obtain ⟨H', J', t', n', w'⟩ := h'
          exact ⟨H', inv_like J' hl.1 hl.2.1 hl.2.2, by rw [hl.1]; exact t', n', w'⟩

theorem seg_start (hc : X.calm = true) (T : Turn X.prog X.w X.K tg J fp it tn) (hco : cenv.scope.isCoroutine = false) (ha : a ∉ fp)
    (hg : PG (gX X s0 H0 elt tg iter ifs scope pos it cenv fp) tg g) (ht : PTs (gX X s0 H0 elt tg iter ifs scope pos it cenv fp) ifs tt) (he : PE (gX X s0 H0 elt tg iter ifs scope pos it cenv fp) elt te)
    (turn : ∀ i m H, W i m H → (J.stop i H ∧ Q (.bl (!st)) H) ∨ (J.go i H ∧ ∃ Nx : Hp → Prop, (∀ H', Nx H' → ∃ m', m' < m ∧ W (i + 1) m' H') ∧ ∀ x H', J.yld i H x H' → g x (wipe σ vs) H' fun σ2 H2 => wipe σ2 vs = wipe σ vs ∧ tt σ2 H2 fun b H3 =>
      if b = true then te σ2 H3 fun y H4 => ∃ b', y = .bl b' ∧ (if b' = st then Q (.bl st) H4 else Nx H4) else Nx H3))
    (n : Nat) (s₀ s : Shared) (h : GI (gX X s0 H0 elt tg iter ifs scope pos it cenv fp) a o (wipe σ vs) tn fp W 0 n s) :
      Seg (model X.prog X.w) X.A.in1.in1 (gR (gX X s0 H0 elt tg iter ifs scope pos it cenv fp) a o st Q) (gY (gX X s0 H0 elt tg iter ifs scope pos it cenv fp) a o (wipe σ vs) tn fp W st Q) (n + 1) s₀ (.compStart (.GeneratorExp elt [⟨tg, iter, ifs, 0⟩] scope pos) 0 (.ref it) .none cenv)
        ((model X.prog X.w).den (.compStart (.GeneratorExp elt [⟨tg, iter, ifs, 0⟩] scope pos) 0 (.ref it) .none cenv)) [] s := by
  have loop := seg_turns hc T hco ha hg ht he turn n 0 s₀ s (n + 1) (Nat.le_refl _) h
  obtain ⟨H', I', t', _⟩ := h
  show Seg _ _ _ _ _ s₀ _ ((compStart (.GeneratorExp elt [⟨tg, iter, ifs, 0⟩] scope pos) 0 (.ref it) .none cenv).onRaise (leaving cenv)) [] s
  unfold compStart
  rw [Sem.onRaise_eq_wrap]
  show Seg _ _ _ _ _ s₀ _ ((ask >>= _).wrap _ _ _ _) [] s
  refine seg_bind_wrap (wpAny_askSetting ?_)
  split
  · exact seg_again rfl loop
  · first
      | exact seg_bind_wrap (wpAny_rule (seg_bind_wrap (wpAny_standAt (seg_bind_wrap (T.self _ 0 s _ _ t' (seg_again rfl loop))))))
      | (refine seg_bind_wrap (wpAny_rule ?_); show Seg _ _ _ _ _ s₀ _ ((standAt iter.pos >>= _).wrap _ _ _ _) [] s; exact seg_bind_wrap (wpAny_standAt (seg_bind_wrap (T.self _ 0 s _ _ t' (seg_again rfl loop)))))
/-- the generator at a, ready for N more turns -/
def GSt (G : Cx) (a : Addr) (o : Obj) (A2 : Around) (R : GenEnd) (Y : Protocol) (gi : Nat) (N : Nat) (s : Shared) : Prop :=
  (∃ τ H', Inv G [(a, o)] τ H' s) ∧ ∃ gs, s.gens[gi]? = some gs ∧ ∀ s'', Like s s'' → gs.Goes (model G.prog G.w) A2 R Y N (.send .none) s''
theorem gen_next {G : Cx} {τ : L2.St} {gi : Nat} {A1 : Around} {Rb : Bool → Shared → Prop} (hh : A1.handled = none) (hr : A1.depth < recursionLimit) (hgen : ∀ h : Heap, h.get? a = some o → h.IsGen a gi)
    (hR : ∀ b s, (∃ σ' H' ps, Inv G ([(a, o)] ++ ps) σ' H' s ∧ Q (.bl b) H') → Rb b s) :
    BTurn G.prog G.w A1 Rb a st (GSt G a o A1.in1 (gR G a o st Q) (gY G a o τ tn fp W st Q) gi) := by
  intro N s hS E
  obtain ⟨⟨τ0, H0, I0⟩, gs, hgs, hgo⟩ := hS
  have pin := (I0.pin (a, o) (List.mem_append_right _ List.mem_cons_self)).1
  have hlt : gi < s.gens.size := by
    rcases Nat.lt_or_ge gi s.gens.size with h' | h'
    · exact h'
    · rw [Array.getElem?_eq_none h'] at hgs; cases hgs
  refine wpAny_gsz (n := s.gens.size) (Nat.le_refl _) ?_
  refine wpAny_pyNext_genexpQ (n := N) (P := gP G a o st Q) hh I0.nolimit hr (hgen _ pin) hgs (hgo _ ⟨rfl, rfl, bare_set I0.bare rfl⟩) (fun v s₁ gs' hb hv => ?_) (fun s₁ hp h' hk => ?_)
  · obtain ⟨b, rfl, hbare, hv⟩ := hv
    intro hsz
    refine ⟨b, rfl, ?_⟩
    by_cases hbs : b = st
    · rw [if_pos hbs] at hv ⊢
      obtain ⟨σ', H', ps, I', q⟩ := hv
      exact hR _ _ ⟨σ', H', ps, inv_like I' rfl rfl (bare_set hbare hb), q⟩
    · rw [if_neg hbs] at hv ⊢
      obtain ⟨⟨i, m, hm, H', I', _⟩, kap⟩ := hv
      cases N with
      | zero => exact (kap s₁ ⟨rfl, rfl, hbare⟩).elim
      | succ N' =>
        refine ⟨N', Nat.lt_succ_self _, ⟨_, H', inv_like I' rfl rfl (bare_set hbare hb)⟩, gs', setGen_at ?_, fun s'' hl => ?_⟩
        · have e : (s₁.setGen gi gs').gens.size = s₁.gens.size := by simp [Shared.setGen]
          rw [e] at hsz
          omega
        · exact kap s'' ⟨hl.1, hl.2.1, hl.2.2⟩
  · intro _
    obtain ⟨σ', H', I', q⟩ := hp
    have I2 : Inv G [(a, o)] σ' H' (s₁.setGen gi .finished) := inv_like I' rfl rfl (bare_set I'.bare rfl)
    exact hR _ _ ⟨σ', H', [], I2.kept (h' := h') (t' := s₁.toks) hk, q⟩
end

/-- a generator has been made that any, all may walk -/
def GReady (X : Cx) (pins : List (Addr × Obj)) (σ : L2.St) (st : Bool) (Q : VK) (v : Value) (s5 : Shared) : Prop :=
  ∃ (a : Addr) (St : Nat → Shared → Prop) (n gi : Nat), v = .ref a ∧ s5.heap.IsGen a gi ∧ St n s5 ∧ BTurn X.prog X.w X.A.in1 (fun b s' => EP X pins σ Q (.bool b) s') a st St
section
variable {X : Cx} {elt tg iter : Expr} {ifs : List Expr} {scope : Scope} {gpos : Pos} {g : TG} {tt : TT} {te : TE} {wi : TI} {Q : VK} {st : Bool} {own : List (Str × Nat)} {c P : Addr} {k : Nat}
theorem gen_make {pins : List (Addr × Obj)} {σ : L2.St} {H : Hp} {s : Shared} (hc : X.calm = true) (hN : X.N.Nodup) (hr : Room (k + 1) X.A) (TB : GxR.TabB X.base X.mg c P) (hcode : X.env.code = .ref c) (ok : GnOk X.N X.env.scope scope own) (hi : PI X tg iter wi)
    (hg : ∀ (s0 : Shared) (H0 : Hp) (it C : Addr) (cl : List (Str × Addr)) (code : Value) (fp : List Addr), PG (gX X s0 H0 elt tg iter ifs scope gpos it (genEnv scope cl C code builtinsNs X.env) fp) tg g)
    (ht : ∀ (s0 : Shared) (H0 : Hp) (it C : Addr) (cl : List (Str × Addr)) (code : Value) (fp : List Addr), PTs (gX X s0 H0 elt tg iter ifs scope gpos it (genEnv scope cl C code builtinsNs X.env) fp) ifs tt)
    (he : ∀ (s0 : Shared) (H0 : Hp) (it C : Addr) (cl : List (Str × Addr)) (code : Value) (fp : List Addr), PE (gX X s0 H0 elt tg iter ifs scope gpos it (genEnv scope cl C code builtinsNs X.env) fp) elt te)
    (hs : ∀ x, genFold iter X.env x = pure x) (I : Inv X pins σ H s) (h : tGx P st wi g tt te (own.map (·.2)) σ H Q) :
    wpAny (model X.prog X.w) X.A (eval (.GeneratorExp elt [⟨tg, iter, ifs, 0⟩] scope gpos) X.env) (GReady X pins σ st Q) X.xe s := by
  have capt : ∀ y ∈ scope.names, y.2 = .free → ∃ c, X.env.cells.lookup y.1 = some c := blk_capt ok.blk fun y h => I.ok.has y h
  refine wpAny_GeneratorExp_make ok.co (closure_ok capt) ok.nocell ok.dot ok.blk.kind hr.depth ?_ hs
  refine thn (hi.run pins s σ H _ I h) fun xv s1 hx => thn hx fun itv s2 h2 => ?_
  obtain ⟨it, fp, tn, J, H2, e, I2, T, st2, f2, ⟨ps, hP, htr⟩, q⟩ := h2
  subst e
  refine ⟨I2.nolimit, ?_⟩
  have hPs : s2.heap.get? P = some { cls := .none, data := .fields ps } := I2.hok P _ hP
  have cd : PySem.W.CodeHd s2.heap c P := TB.code.keeps fun b u e => I2.bk b u e
  have sz : ∀ b ∈ fp, b < s2.heap.objs.size := fun b hb => by
    obtain ⟨o, e, _⟩ := T.obj _ _ st2 b hb
    exact Heap.lt_size e
  have fP : ∀ b ∈ fp, b ≠ P := fun b hb z => by
    have := (f2 b hb).1
    rw [z, hP] at this
    cases this
  have cont : ∀ (code : Value) (h3 : Heap) (tk : Nat) (ps' : Array Value), Heap.ExtBut P s2.heap h3 → s2.heap.objs.size ≤ h3.objs.size → h3.get? P = some { cls := .none, data := .fields ps' } → (∃ more, ps' = ps ++ more) → TriplesOk ps'.toList →
      wpAny (model X.prog X.w) X.A (builtinsFor X.env.globals X.env.builtins) (fun bi s₄ => ∀ h', h'.Ns s₄.heap.objs.size (fun y => if y = ".0" then some (.ref it) else none) → Heap.SameBut s₄.heap.objs.size (s₄.heap.push { cls := .type "frame", data := .dict #[] }) h' →
        GReady X pins σ st Q (.ref h'.objs.size) { s₄ with
            gens := s₄.gens.push (.fresh (.compStart (.GeneratorExp elt [⟨tg, iter, ifs, 0⟩] scope gpos) 0 (.ref it) .none (genEnv scope (cloFrom X.env.cells scope.names []) s₄.heap.objs.size code bi X.env))),
            toks := s₄.toks + 1 + 1 + 1,
            heap := h'.push { cls := .type "generator", data := .fields #[.int s₄.gens.size 0, .str "<genexpr>" (s₄.toks + 1), .str (X.env.qual ++ "<genexpr>") (s₄.toks + 1 + 1)] } }) X.xe { s2 with heap := h3, toks := tk } := by
    intro code h3 tk ps' hx hsz hP3 hmore ht3
    obtain ⟨bm, ob, e1, e2, e3, e4, e5, e6, e7, e8⟩ := TB.bm
    have keep3 : ∀ b u, b ≠ P → s2.heap.get? b = some u → h3.get? b = some u := fun b u hb e => hx b u hb e
    obtain ⟨more, em⟩ := hmore
    refine wpAny_builtinsFor (m := X.mg) (by rw [I2.ok.glob]; exact (I2.mod.glob.keeps I2.bk).extBut hx TB.gP) e1 e2 (keep3 _ _ e4 (I2.bk _ _ e5)) e6 e7 e8 ?_
    intro h' hn' hs'
    have I3 : Inv X pins σ (upd H2 P (.tbl ps')) { s2 with heap := h3, gens := s2.gens, drawn := s2.drawn, toks := tk } := by
      have := GxR.inv_tab (more := more) (h' := h3) (g' := s2.gens) (d' := s2.drawn) (t' := tk) I2 hP keep3 (by rw [← em]; exact hP3) I2.bare
      rw [← em] at this
      exact this
    obtain ⟨W, ⟨m0, w0⟩, turn⟩ := q (upd H2 P (.tbl ps')) ⟨⟨ps', upd_same, ht3⟩, fun b hb => upd_ne hb⟩
    have f3 : ∀ b ∈ fp, FpOk X pins (upd H2 P (.tbl ps')) b ∧ b < h3.objs.size := fun b hb => ⟨⟨by rw [upd_ne (fP b hb)]; exact (f2 b hb).1, (f2 b hb).2⟩, Nat.lt_of_lt_of_le (sz b hb) hsz⟩
    have hsz' : h'.objs.size = h3.objs.size + 1 := by rw [hs'.1, Heap.size_push]
    have keep' : ∀ b o, h3.get? b = some o → h'.get? b = some o := fun b o e => hs'.extBut b o (Nat.ne_of_lt (Heap.lt_size e)) (Heap.get?_push_of_some _ e)
    generalize hgo : ({ cls := .type "generator", data := .fields #[.int s2.gens.size 0, .str "<genexpr>" (tk + 1), .str (X.env.qual ++ "<genexpr>") (tk + 1 + 1)] } : Obj) = go
    have hdata : go.data = .fields #[.int s2.gens.size 0, .str "<genexpr>" (tk + 1), .str (X.env.qual ++ "<genexpr>") (tk + 1 + 1)] := by rw [← hgo]
    have keep5 : ∀ b o, h3.get? b = some o → (h'.push go).get? b = some o := fun b o e => Heap.get?_push_of_some _ (keep' b o e)
    generalize hce : genEnv scope (cloFrom X.env.cells scope.names []) h3.objs.size code builtinsNs X.env = ce
    have hgens : AllBare (s2.gens.push (.fresh (.compStart (.GeneratorExp elt [⟨tg, iter, ifs, 0⟩] scope gpos) 0 (.ref it) .none ce))) := I2.bare.push rfl
    have ha : h'.objs.size ∉ fp := fun z => by
      have z2 : h'.objs.size < h3.objs.size := (f3 _ z).2
      rw [hsz'] at z2
      exact Nat.not_lt.mpr (Nat.le_succ _) z2
    have gat : (h'.push go).get? h'.objs.size = some go := Heap.get?_push_size _ (by rw [← hgo]; rfl)
    have I4 := gen_start (fp := fp) (c := gcode elt tg iter ifs scope gpos it ce) (code := code) (h5 := h'.push go) (g5 := s2.gens.push (.fresh (.compStart (.GeneratorExp elt [⟨tg, iter, ifs, 0⟩] scope gpos) 0 (.ref it) .none ce))) (d5 := s2.drawn) (t5 := tk + 1 + 1 + 1) (a := h'.objs.size) (o := go) I3 ok hN f3 hce.symm keep5 (hn'.push _) hgens
      (gen_frames I2.ok.frames) hsz' gat (fun v z => by rw [hdata] at z; cases z)
    have hg' := hg { s2 with heap := h3, gens := s2.gens, drawn := s2.drawn, toks := tk } (upd H2 P (.tbl ps')) it h3.objs.size (cloFrom X.env.cells scope.names []) code fp
    have ht' := ht { s2 with heap := h3, gens := s2.gens, drawn := s2.drawn, toks := tk } (upd H2 P (.tbl ps')) it h3.objs.size (cloFrom X.env.cells scope.names []) code fp
    have he' := he { s2 with heap := h3, gens := s2.gens, drawn := s2.drawn, toks := tk } (upd H2 P (.tbl ps')) it h3.objs.size (cloFrom X.env.cells scope.names []) code fp
    rw [hce] at hg' ht' he'
    have hco : ce.scope.isCoroutine = false := by rw [← hce]; exact ok.co
    have st5 : tn 0 (h'.push go) := T.keep _ _ _ st2 fun b hb o e => keep5 b o (keep3 b o (fP b hb) e)
    have hgen : ∀ h : Heap, h.get? h'.objs.size = some go → h.IsGen h'.objs.size s2.gens.size := fun h e => ⟨go, _, _, e, by rw [← hgo], hdata, by rw [← hgo]⟩
    refine ⟨h'.objs.size, GSt (gX X { s2 with heap := h3, gens := s2.gens, drawn := s2.drawn, toks := tk } (upd H2 P (.tbl ps')) elt tg iter ifs scope gpos it ce fp) h'.objs.size go X.A.in1.in1 _ _ s2.gens.size, m0 + 1, s2.gens.size, rfl, hgen _ gat, ?_,
      gen_next (G := gX X { s2 with heap := h3, gens := s2.gens, drawn := s2.drawn, toks := tk } (upd H2 P (.tbl ps')) elt tg iter ifs scope gpos it ce fp) (st := st) (Rb := fun b s' => EP X pins σ Q (.bool b) s') (A1 := X.A.in1) (τ := wipe σ (own.map (·.2))) (tn := tn) (fp := fp) (W := W) (Q := Q) (I2.ok.hd hc) hr.depth hgen fun b s6 h6 => ?_⟩
    · refine ⟨⟨_, _, I4⟩, _, Array.getElem?_push_size .., fun s'' hl => ⟨rfl, ?_⟩⟩
      refine seg_start hc T hco ha hg' ht' he' turn m0 s'' s'' ⟨_, inv_like I4 hl.1 hl.2.1 hl.2.2, by rw [hl.1]; exact st5, fun b hb => (f3 b hb).1.1, w0⟩
    · obtain ⟨σ6, H6, ps6, I6, q6⟩ := h6
      exact ⟨.bl b, H6, I3.call' (ch := fp) I6.os I6.base I6.hok I6.bare (fun b hb => ⟨(f3 b hb).1.2.2.2.1, (f3 b hb).1.2.1, (f3 b hb).1.2.2.2.2.1, (f3 b hb).1.2.2.2.2.2⟩), rfl, q6⟩
  cases hf : codeAmong gpos ps.toList with
  | none =>
    refine wpAny_genexprCodeX hcode (cd.code hPs htr) (cd.tab hPs) hf fun c' h' tk hx hge hlt hco' _ htab' _ => ?_
    obtain ⟨o1, vs, f1, tf, fl, tg, inF, tx, tt, op, _, _, _, _, _, _, _, _, _, htr', _⟩ := hco'
    exact cont _ h' tk _ hx (Nat.le_trans hge (Nat.le_of_lt hlt)) htab'.2 ⟨_, rfl⟩ htr'
  | some cv =>
    refine wpAny_genexprCode_hit hcode (cd.code hPs htr) hf ?_
    exact cont cv s2.heap s2.toks ps (Heap.ExtBut.refl _ _) (Nat.le_refl _) hPs ⟨#[], by simp⟩ htr

theorem pe_allG {p pos : Pos} (hc : X.calm = true) (hN : X.N.Nodup) (hr : Room (k + 1) X.A) (hgl : Gl X "all") (hm : X.mg "all" = none) (TB : GxR.TabB X.base X.mg c P) (hcode : X.env.code = .ref c) (ok : GnOk X.N X.env.scope scope own) (hi : PI X tg iter wi)
    (hg : ∀ (s0 : Shared) (H0 : Hp) (it C : Addr) (cl : List (Str × Addr)) (code : Value) (fp : List Addr), PG (gX X s0 H0 elt tg iter ifs scope gpos it (genEnv scope cl C code builtinsNs X.env) fp) tg g)
    (ht : ∀ (s0 : Shared) (H0 : Hp) (it C : Addr) (cl : List (Str × Addr)) (code : Value) (fp : List Addr), PTs (gX X s0 H0 elt tg iter ifs scope gpos it (genEnv scope cl C code builtinsNs X.env) fp) ifs tt)
    (he : ∀ (s0 : Shared) (H0 : Hp) (it C : Addr) (cl : List (Str × Addr)) (code : Value) (fp : List Addr), PE (gX X s0 H0 elt tg iter ifs scope gpos it (genEnv scope cl C code builtinsNs X.env) fp) elt te)
    (hs : ∀ x, genFold iter X.env x = pure x) (hv : bootBuiltins "all" = some (.builtin "all") := by rfl)
    (hst : starEach [.GeneratorExp elt [⟨tg, iter, ifs, 0⟩] scope gpos] X.env = (false, eval (.GeneratorExp elt [⟨tg, iter, ifs, 0⟩] scope gpos) X.env) :: starEach [] X.env := by rfl) :
    PE X (.Call (.Name "all" p) [.GeneratorExp elt [⟨tg, iter, ifs, 0⟩] scope gpos] [] pos) (tGx P false wi g tt te (own.map (·.2))) := by
  refine ⟨fun pins s σ H Q I h => ?_⟩
  refine wpAny_Call_Name_kw (ld_blt I hgl hm hv ?_)
  refine PyProof.Rows.callWith_builtin1 ?_ hst (by rfl)
  rw [hst]
  show wpAny _ _ (spliced ((false, eval (.GeneratorExp elt [⟨tg, iter, ifs, 0⟩] scope gpos) X.env) :: backTo pos (starEach [] X.env))) _ _ s
  refine Calls.spliced_cons (wpAny_mono (gen_make hc hN hr TB hcode ok hi hg ht he hs I h) (fun v s5 h5 => ?_) fun _ _ e => e)
  refine Calls.spliced_nil ?_
  obtain ⟨a, St, n, gi, rfl, hgen, hst5, T⟩ := h5
  exact call_all_turns T (wpAny_pyIter_gen hgen ⟨rfl, n, hst5⟩)
theorem pe_anyG {p pos : Pos} (hc : X.calm = true) (hN : X.N.Nodup) (hr : Room (k + 1) X.A) (hgl : Gl X "any") (hm : X.mg "any" = none) (TB : GxR.TabB X.base X.mg c P) (hcode : X.env.code = .ref c) (ok : GnOk X.N X.env.scope scope own) (hi : PI X tg iter wi)
    (hg : ∀ (s0 : Shared) (H0 : Hp) (it C : Addr) (cl : List (Str × Addr)) (code : Value) (fp : List Addr), PG (gX X s0 H0 elt tg iter ifs scope gpos it (genEnv scope cl C code builtinsNs X.env) fp) tg g)
    (ht : ∀ (s0 : Shared) (H0 : Hp) (it C : Addr) (cl : List (Str × Addr)) (code : Value) (fp : List Addr), PTs (gX X s0 H0 elt tg iter ifs scope gpos it (genEnv scope cl C code builtinsNs X.env) fp) ifs tt)
    (he : ∀ (s0 : Shared) (H0 : Hp) (it C : Addr) (cl : List (Str × Addr)) (code : Value) (fp : List Addr), PE (gX X s0 H0 elt tg iter ifs scope gpos it (genEnv scope cl C code builtinsNs X.env) fp) elt te)
    (hs : ∀ x, genFold iter X.env x = pure x) (hv : bootBuiltins "any" = some (.builtin "any") := by rfl)
    (hst : starEach [.GeneratorExp elt [⟨tg, iter, ifs, 0⟩] scope gpos] X.env = (false, eval (.GeneratorExp elt [⟨tg, iter, ifs, 0⟩] scope gpos) X.env) :: starEach [] X.env := by rfl) :
    PE X (.Call (.Name "any" p) [.GeneratorExp elt [⟨tg, iter, ifs, 0⟩] scope gpos] [] pos) (tGx P true wi g tt te (own.map (·.2))) := by
  refine ⟨fun pins s σ H Q I h => ?_⟩
  refine wpAny_Call_Name_kw (ld_blt I hgl hm hv ?_)
  refine PyProof.Rows.callWith_builtin1 ?_ hst (by rfl)
  rw [hst]
  show wpAny _ _ (spliced ((false, eval (.GeneratorExp elt [⟨tg, iter, ifs, 0⟩] scope gpos) X.env) :: backTo pos (starEach [] X.env))) _ _ s
  refine Calls.spliced_cons (wpAny_mono (gen_make hc hN hr TB hcode ok hi hg ht he hs I h) (fun v s5 h5 => ?_) fun _ _ e => e)
  refine Calls.spliced_nil ?_
  obtain ⟨a, St, n, gi, rfl, hgen, hst5, T⟩ := h5
  exact call_any_turns T (wpAny_pyIter_gen hgen ⟨rfl, n, hst5⟩)
end
end MV
namespace MV
open PySem PySem.Spec PyProof.Rows L2
theorem tabbed_ne {H0 H1 : Hp} {P : Addr} (tb : GxR.Tabbed P H0 H1) (t0 : GxR.TabG H0 P) {b : Addr} {o : HO} (e : H0 b = some o) (n : ∀ ps, o ≠ .tbl ps) : H1 b = H0 b := by
  refine tb.2 b fun z => ?_
  obtain ⟨ps, hP, _⟩ := t0
  rw [z, hP] at e
  cases e
  exact n _ rfl
theorem Ext.tabbed {m : MM} {H0 H1 : Hp} {P : Addr} (tb : GxR.Tabbed P H0 H1) (t0 : GxR.TabG H0 P) : Ext m H0 m H1 :=
  ⟨⟨⟨Nat.le_refl _, fun _ _ _ e => e, fun a o e n _ hm => ⟨(tabbed_ne tb t0 e n).trans e, hm⟩⟩, fun a od u e => (tabbed_ne tb t0 e (fun _ z => nomatch z)).trans e⟩, fun a φ e => (tabbed_ne tb t0 e (fun _ z => nomatch z)).trans e⟩
theorem Sim.tabbed {K T m h H0 H1} {P : Addr} (S : Sim K T m h H0) (tb : GxR.Tabbed P H0 H1) (t0 : GxR.TabG H0 P) : Sim K T m h H1 := by
  refine ⟨Paired.mem_map S.cell fun c x hx q => q.mono (Ext.tabbed tb t0) fun a ea => ?_, S.inj, fun P' hP' => ?_⟩
  · subst ea
    obtain ⟨o, e, n⟩ := q.stands
    exact tabbed_ne tb t0 e n
  · by_cases e : P' = P
    · rw [e]; exact tb.1
    · obtain ⟨ps, h1, h2⟩ := S.tab P' hP'
      exact ⟨ps, (tb.2 P' e).trans h1, h2⟩
/-- the walk of any, all: the first element that is st ends it -/
def gxL (st : Bool) (g : CG) (tt : CT) (te : CE) (σ : SA) : List Val → AH → Option (Out Val × AH)
  | [], h => some (.ok (.d (.bool (!st))), h)
  | x :: xs, h => match g x h with
    | none => none
    | some ups => match tt (setAll σ ups) h with
      | some (.ok false, h1) => gxL st g tt te σ xs h1
      | some (.ok true, h1) => match te (setAll σ ups) h1 with
        | some (.ok (.d (.bool b)), h2) => if b = st then some (.ok (.d (.bool st)), h2) else gxL st g tt te σ xs h2
        | _ => none
      | _ => none
def cGx (st : Bool) (ci : CI) (own : List Nat) (g : CG) (tt : CT) (te : CE) : CE := fun σ => bnd (ci σ) fun xs => fun h => gxL st g tt te (wipeA σ own) xs h
theorem gxL_ok {st g tt te σ} : ∀ {xs h r h'}, gxL st g tt te σ xs h = some (r, h') → ∃ b, r = .ok (.d (.bool b)) := by
  intro xs
  induction xs with
  | nil => intro h r h' e; cases e; exact ⟨_, rfl⟩
  | cons x xs ih =>
    intro h r h' e
    unfold gxL at e
    split at e
    · cases e
    · split at e
      · exact ih e
      · split at e
        · split at e
          · cases e; exact ⟨_, rfl⟩
          · exact ih e
        · cases e
      · cases e
section
variable {X : Cx} {T : Tx} {W : WX} {k : Nat} {elt tg iter : Expr} {ifs : List Expr} {pos p gpos : Pos} {ce : CE} {ct : CT} {ci : CI} {ns : List Nat} {g : CG} {st : Bool} {P : Addr}
theorem gx_read {own : List (Str × Nat)} {σ : L2.St} {H : Hp} {Q : VK} (hP : P ∈ T.tabs) (hns : ∀ i ∈ ns, i ∈ own.map (·.2)) (hn : ∀ x h ups, g x h = some ups → ups.map (·.1) = ns)
    (h : tE X T W (cGx st ci (own.map (·.2)) g ct ce) σ H Q) : tGx P st (tI X T W ci) (tG X.K T g) (tT X T W0 ct) (tE X T W0 ce) (own.map (·.2)) σ H Q := by
  obtain ⟨m, h0, σa, S, RS, A⟩ := h
  refine ⟨m, h0, σa, S, RS, A.bind.mono fun m1 h1 H1 xs E1 S1 A1 J hJ => ⟨S1.tab P hP, fun H1' tb => ?_⟩⟩
  have E2 : Ext m1 H1 m1 H1' := Ext.tabbed tb (S1.tab P hP)
  have S2 : Sim X.K T m1 h1 H1' := S1.tabbed tb (S1.tab P hP)
  obtain ⟨r9, h9, e9, q9⟩ := A1
  obtain ⟨b9, rfl⟩ := gxL_ok e9
  have q9 : ∀ m' H', Ext m1 H1 m' H' → Sim X.K T m' h9 H' → ∀ v, RepV X.K m' H' (.d (.bool b9)) v → Q v H' := q9
  have RS1 : RepS X.K m1 H1' (wipeA σa (own.map (·.2))) (wipe σ (own.map (·.2))) := ((RS.mono E1).wipe _).mono E2
  refine ⟨fun i mm H => mm = xs.length - i ∧ ∃ m h, Ext m1 H1' m H ∧ Sim X.K T m h H ∧ gxL st g ct ce (wipeA σa (own.map (·.2))) (xs.drop i) h = some (.ok (.d (.bool b9)), h9), ⟨_, rfl, m1, h1, Ext.refl _ _, S2, by rw [List.drop_zero]; exact e9⟩, ?_⟩
  rintro i mm H2 ⟨rfl, m2, h2, E3, S3, e2⟩
  have hJ2 : ItOk X.K T m1 H1' xs J := hJ.mono E2
  by_cases hi : i < xs.length
  · refine .inr ⟨hJ2.go m2 h2 H2 i E3 S3 hi, fun H' => ∃ m h, Ext m1 H1' m H' ∧ Sim X.K T m h H' ∧ gxL st g ct ce (wipeA σa (own.map (·.2))) (xs.drop (i + 1)) h = some (.ok (.d (.bool b9)), h9), fun H' hN => ⟨xs.length - (i + 1), by omega, rfl, hN⟩, fun x H3 y => ?_⟩
    obtain ⟨xa, m3, ex, E4, S4, rx⟩ := hJ2.yld m2 h2 H2 i x H3 E3 S3 hi y
    have hd : xs.drop i = xa :: xs.drop (i + 1) := by
      obtain ⟨hi', e'⟩ := List.getElem?_eq_some_iff.mp ex
      rw [List.drop_eq_getElem_cons hi', e']
    rw [hd] at e2
    unfold gxL at e2
    cases hgx : g xa h2 with
    | none => rw [hgx] at e2; cases e2
    | some ups =>
      simp only [hgx] at e2
      refine ⟨m3, h2, xa, ups, S4, rx, hgx, fun ws hw => ⟨?_, m3, h2, setAll (wipeA σa (own.map (·.2))) ups, S4, ?_, ?_⟩⟩
      · rw [wipe_setAll ws _ fun w hw' => hns _ (by
          have : w.1 ∈ ws.map (·.1) := List.mem_map.mpr ⟨w, hw', rfl⟩
          rw [ups_fst hw, hn _ _ _ hgx] at this
          exact this), wipe_wipe σ _ fun u hu => hu]
      · exact ((RS1.mono E3).mono E4).setAll hw
      · cases ht : ct (setAll (wipeA σa (own.map (·.2))) ups) h2 with
        | none => simp only [ht] at e2; cases e2
        | some p5 =>
          obtain ⟨r5, h5⟩ := p5
          simp only [ht] at e2
          cases r5 with
          | exn _ _ => cases e2
          | ok bb =>
            refine ⟨_, _, rfl, fun m5 H5 E5 S5 b' rb => ?_⟩
            subst rb
            cases b' with
            | false =>
              rw [if_neg Bool.false_ne_true]
              exact ⟨m5, h5, (E3.trans E4).trans E5, S5, e2⟩
            | true =>
              rw [if_pos rfl]
              simp only at e2
              refine ⟨m5, h5, setAll (wipeA σa (own.map (·.2))) ups, S5, ((((RS1.mono E3).mono E4).setAll hw)).mono E5, ?_⟩
              cases he : ce (setAll (wipeA σa (own.map (·.2))) ups) h5 with
              | none => simp only [he] at e2; cases e2
              | some p6 =>
                obtain ⟨r6, h6⟩ := p6
                simp only [he] at e2
                split at e2
                · rename_i b6 h6' e6
                  cases e6
                  refine ⟨_, _, rfl, fun m6 H6 E6 S6 v6 r6 => ?_⟩
                  have EE : Ext m1 H1' m6 H6 := ((E3.trans E4).trans E5).trans E6
                  have ev : v6 = .bl b6 := by
                    cases (show Rp X.K m6 H6 (.bool b6) v6 from r6)
                    rfl
                  refine ⟨b6, ev, ?_⟩
                  by_cases hb : b6 = st
                  · rw [if_pos hb] at e2 ⊢
                    cases e2
                    exact q9 m6 H6 (E2.trans EE) S6 _ (.bl _)
                  · rw [if_neg hb] at e2 ⊢
                    exact ⟨m6, _, EE, S6, e2⟩
                · cases e2
  · refine .inl ⟨hJ2.stop m2 h2 H2 i E3 S3 (by omega), ?_⟩
    rw [List.drop_of_length_le (by omega)] at e2
    cases e2
    exact q9 m2 H2 (E2.trans E3) S3 _ (.bl _)
/-- the def's code object and its table -/
structure TbOk (X : Cx) (T : Tx) : Prop where
  ex : ∃ c P, GxR.TabB X.base X.mg c P ∧ X.env.code = .ref c ∧ P ∈ T.tabs
theorem cok_gen {s0 : Shared} {H0 : Hp} {it C : Addr} {cl : List (Str × Addr)} {code : Value} {fp : List Addr} {scope : Scope} (Co : Cok X W (k + 1)) : Cok (gX X s0 H0 elt tg iter ifs scope gpos it (genEnv scope cl C code builtinsNs X.env) fp) W0 k :=
  ⟨Co.calm, gen_room Co.room, L2.takes0, PassesOwn.never, Co.nd⟩
theorem re_all {scope : Scope} {own : List (Str × Nat)} (Co : Cok X W (k + 1)) (hgl : Gl X "all") (hm : X.mg "all" = none) (TB : TbOk X T) (ok : GnOk X.N X.env.scope scope own) (hns : ∀ i ∈ ns, i ∈ own.map (·.2)) (hi : RI X T W tg iter ci)
    (hg : ∀ (s0 : Shared) (H0 : Hp) (it C : Addr) (cl : List (Str × Addr)) (code : Value) (fp : List Addr), RG (gX X s0 H0 elt tg iter ifs scope gpos it (genEnv scope cl C code builtinsNs X.env) fp) T tg ns g)
    (ht : ∀ (s0 : Shared) (H0 : Hp) (it C : Addr) (cl : List (Str × Addr)) (code : Value) (fp : List Addr), RTs (gX X s0 H0 elt tg iter ifs scope gpos it (genEnv scope cl C code builtinsNs X.env) fp) T W0 ifs ct)
    (he : ∀ (s0 : Shared) (H0 : Hp) (it C : Addr) (cl : List (Str × Addr)) (code : Value) (fp : List Addr), Cok (gX X s0 H0 elt tg iter ifs scope gpos it (genEnv scope cl C code builtinsNs X.env) fp) W0 k → RE (gX X s0 H0 elt tg iter ifs scope gpos it (genEnv scope cl C code builtinsNs X.env) fp) T W0 elt ce)
    (hs : ∀ x, genFold iter X.env x = pure x := by intro _; rfl) : RE X T W (.Call (.Name "all" p) [.GeneratorExp elt [⟨tg, iter, ifs, 0⟩] scope gpos] [] pos) (cGx false ci (own.map (·.2)) g ct ce) := by
  obtain ⟨c, P, tb, hcode, hP⟩ := TB.ex
  exact ⟨⟨fun pins s σ H Q I h => (pe_allG Co.calm Co.nd Co.room hgl hm tb hcode ok hi.pi (fun s0 H0 it C cl code fp => (hg s0 H0 it C cl code fp).pg) (fun s0 H0 it C cl code fp => (ht s0 H0 it C cl code fp).pts) (fun s0 H0 it C cl code fp => (he s0 H0 it C cl code fp (cok_gen Co)).pe) hs).run pins s σ H Q I
    (gx_read hP hns (hg s H 0 0 [] .none []).ns h)⟩⟩
theorem re_any {scope : Scope} {own : List (Str × Nat)} (Co : Cok X W (k + 1)) (hgl : Gl X "any") (hm : X.mg "any" = none) (TB : TbOk X T) (ok : GnOk X.N X.env.scope scope own) (hns : ∀ i ∈ ns, i ∈ own.map (·.2)) (hi : RI X T W tg iter ci)
    (hg : ∀ (s0 : Shared) (H0 : Hp) (it C : Addr) (cl : List (Str × Addr)) (code : Value) (fp : List Addr), RG (gX X s0 H0 elt tg iter ifs scope gpos it (genEnv scope cl C code builtinsNs X.env) fp) T tg ns g)
    (ht : ∀ (s0 : Shared) (H0 : Hp) (it C : Addr) (cl : List (Str × Addr)) (code : Value) (fp : List Addr), RTs (gX X s0 H0 elt tg iter ifs scope gpos it (genEnv scope cl C code builtinsNs X.env) fp) T W0 ifs ct)
    (he : ∀ (s0 : Shared) (H0 : Hp) (it C : Addr) (cl : List (Str × Addr)) (code : Value) (fp : List Addr), Cok (gX X s0 H0 elt tg iter ifs scope gpos it (genEnv scope cl C code builtinsNs X.env) fp) W0 k → RE (gX X s0 H0 elt tg iter ifs scope gpos it (genEnv scope cl C code builtinsNs X.env) fp) T W0 elt ce)
    (hs : ∀ x, genFold iter X.env x = pure x := by intro _; rfl) : RE X T W (.Call (.Name "any" p) [.GeneratorExp elt [⟨tg, iter, ifs, 0⟩] scope gpos] [] pos) (cGx true ci (own.map (·.2)) g ct ce) := by
  obtain ⟨c, P, tb, hcode, hP⟩ := TB.ex
  exact ⟨⟨fun pins s σ H Q I h => (pe_anyG Co.calm Co.nd Co.room hgl hm tb hcode ok hi.pi (fun s0 H0 it C cl code fp => (hg s0 H0 it C cl code fp).pg) (fun s0 H0 it C cl code fp => (ht s0 H0 it C cl code fp).pts) (fun s0 H0 it C cl code fp => (he s0 H0 it C cl code fp (cok_gen Co)).pe) hs).run pins s σ H Q I
    (gx_read hP hns (hg s H 0 0 [] .none []).ns h)⟩⟩
end
end MV
/-! dicts as cells -/
namespace MV
open PySem PySem.Spec PyProof.Rows L2
theorem cok_blk {X : Cx} {W : WX} {k : Nat} {s : Shared} {H : Hp} {scope : Scope} {cenv : Env} {fp : List Addr} (Co : Cok X W k) : Cok (X.blk s H scope cenv fp) W0 k := ⟨Co.calm, Co.room, L2.takes0, PassesOwn.never, Co.nd⟩
/-! ### keys -/
def keyOf : PyData → Option Key
  | .int i => some (.inl i)
  | .str x => some (.inr x)
  | _ => none
def keysOf : List PyData → Option (List Key)
  | [] => some []
  | d :: ds => match keyOf d, keysOf ds with
    | some k, some ks => some (k :: ks)
    | _, _ => none
def ky1 : Val → Option Key
  | .d x => keyOf x
  | _ => none
def kyT : Val → Option (List Key)
  | .d (.tuple ds) => keysOf ds
  | _ => none
def dOfK : Key → PyData
  | .inl i => .int i
  | .inr x => .str x
section
variable {K : PySem.W.Frag} {T : Tx} {m : MM} {h : AH} {H : Hp}
theorem keyOf_rp {d : PyData} {k : Key} {v : V} (e : keyOf d = some k) (r : Rp K m H d v) : v = kV k := by
  cases r <;> simp only [keyOf] at e <;> cases e <;> rfl
theorem keyOf_eq {d : PyData} {k : Key} (e : keyOf d = some k) : d = dOfK k := by
  cases d <;> simp only [keyOf] at e <;> cases e <;> rfl
theorem keysOf_rp : ∀ {ds : List PyData} {ks : List Key} {vs : List V}, keysOf ds = some ks → RpL K m H ds vs → vs = ks.map kV
  | [], ks, _, e, .nil => by cases e; rfl
  | d :: ds, ks, _, e, .cons r t => by
    unfold keysOf at e
    split at e
    · rename_i k ks' e1 e2
      cases e
      rw [keyOf_rp e1 r, keysOf_rp e2 t]
      rfl
    · cases e
theorem ky1_rp {x : Val} {k : Key} {v : V} (e : ky1 x = some k) (r : RepV K m H x v) : v = kV k := by
  cases x with
  | d y => exact keyOf_rp e r
  | _ => cases e
theorem kyT_rp {x : Val} {ks : List Key} {v : V} (e : kyT x = some ks) (r : RepV K m H x v) : ∃ b, v = .ref b ∧ H b = some (.tup (ks.map kV)) := by
  cases x with
  | d y =>
    cases y with
    | tuple ds =>
      cases (show Rp K m H (.tuple ds) v from r) with
      | tup hz t =>
        rw [← keysOf_rp e t]
        exact ⟨_, rfl, hz.1⟩
    | _ => cases e
  | _ => cases e
theorem dOfK_rp (k : Key) : Rp K m H (dOfK k) (kV k) := by cases k <;> constructor
theorem Sim.notTup (S : Sim K T m h H) {b : Addr} {xs : List V} (e : H b = some (.tup xs)) : some b ∉ m := fun hm => by
  obtain ⟨l, el⟩ := List.mem_iff_getElem?.mp hm
  obtain ⟨c, _, ok⟩ := S.of el
  cases ok with
  | lst q _ => rw [e] at q; cases q
  | dK q _ => rw [e] at q; cases q
  | dT q _ => rw [e] at q; cases q
  | ins q _ => rw [e] at q; cases q
  | lT q _ => rw [e] at q; cases q
  | lK q _ => rw [e] at q; cases q
  | lL q _ => rw [e] at q; cases q
theorem Sim.keyT (S : Sim K T m h H) {b : Addr} {ks : List Key} (e : H b = some (.tup (ks.map kV))) : Rp K m H (.tuple (ks.map dOfK)) (.ref b) := by
  refine .tup ⟨e, S.notTup e⟩ ?_
  clear e
  induction ks with
  | nil => exact .nil
  | cons k ks ih => exact .cons (dOfK_rp k) ih
end
/-! ### entries -/
section
variable {κ : Type} [DecidableEq κ]
def valA (kvs : List (κ × Val)) (k : κ) : Option Val := (kvs.find? fun kv => decide (kv.1 = k)).map (·.2)
def putA (kvs : List (κ × Val)) (k : κ) (v : Val) : List (κ × Val) :=
  if (kvs.any fun kv => decide (kv.1 = k)) = true then kvs.map (fun kv => if kv.1 = k then (kv.1, v) else kv) else kvs ++ [(k, v)]
abbrev KvR (K : PySem.W.Frag) (m : MM) (H : Hp) (kvs : List (κ × Val)) (ws : List (κ × V)) : Prop := Paired (fun (p : κ × Val) (q : κ × V) => p.1 = q.1 ∧ RepV K m H p.2 q.2) kvs ws
theorem KvR.val {K m H} {kvs : List (κ × Val)} {ws : List (κ × V)} (r : KvR K m H kvs ws) (k : κ) : (valA kvs k = none ∧ valV ws k = none) ∨ ∃ x w, valA kvs k = some x ∧ valV ws k = some w ∧ RepV K m H x w := by
  induction r with
  | nil => exact .inl ⟨rfl, rfl⟩
  | @cons p q ps qs h t ih =>
    by_cases e : p.1 = k
    · exact .inr ⟨p.2, q.2, by simp [valA, List.find?_cons, e], valV_pos (h.1 ▸ e), h.2⟩
    · have e2 : ¬ q.1 = k := fun z => e (h.1.trans z)
      rw [valV_neg e2, show valA (p :: ps) k = valA ps k by simp [valA, List.find?_cons, e]]
      exact ih
theorem KvR.put {K m H} {kvs : List (κ × Val)} {ws : List (κ × V)} (r : KvR K m H kvs ws) (k : κ) {v : Val} {w : V} (rv : RepV K m H v w) : KvR K m H (putA kvs k v) (putK ws k w) := by
  have ea : (kvs.any fun kv => decide (kv.1 = k)) = (ws.any fun kv => decide (kv.1 = k)) := by
    induction r with
    | nil => rfl
    | @cons p q ps qs h t ih => rw [List.any_cons, List.any_cons, ih, h.1]
  unfold putA putK
  rw [ea]
  split
  · have go : ∀ {a : List (κ × Val)} {b : List (κ × V)}, KvR K m H a b → KvR K m H (a.map fun kv => if kv.1 = k then (kv.1, v) else kv) (b.map fun kv => if kv.1 = k then (kv.1, w) else kv) := by
      intro a b r
      induction r with
      | nil => exact .nil
      | @cons p q ps qs h t ih =>
        refine .cons ?_ ih
        dsimp only
        by_cases e : p.1 = k
        · rw [if_pos e, if_pos (h.1 ▸ e)]
          exact ⟨h.1, rv⟩
        · rw [if_neg e, if_neg fun z => e (h.1.trans z)]
          exact h
    exact go r
  · exact Paired.app r (.cons ⟨rfl, rv⟩ .nil)
theorem KvR.mono {K m H m' H'} (E : Ext m H m' H') {kvs : List (κ × Val)} {ws : List (κ × V)} (r : KvR K m H kvs ws) : KvR K m' H' kvs ws := Paired.mapP r fun _ _ z => ⟨z.1, z.2.mono E⟩
end
section
variable {X : Cx} {T : Tx} {W : WX} {k : Nat} {a b c e o i : Expr} {es : List Expr} {pos p p2 p3 apos cpos : Pos} {ce ca cb co ci : CE} {cr : CA}
/-- a new cell of any kind -/
theorem Sim.pushC {K T m h H} (S : Sim K T m h H) {D : Addr} {u : HO} {c : Cell} (hD : H D = none) (ok : CellOk K (m ++ [some D]) (upd H D u) c (some D)) : Sim K T (m ++ [some D]) (h ++ [c]) (upd H D u) := by
  have P0 := Sim.push (vs := []) (xs := []) S hD .nil
  have E : Ext m H (m ++ [some D]) (upd H D u) := Ext.push S hD
  refine ⟨Paired.app (Paired.mem_map S.cell fun c x hx q => q.mono E fun a ea => by rw [upd_ne (S.ne hD (ea ▸ hx))]) (.cons ok .nil), P0.inj, fun P hP => ?_⟩
  obtain ⟨ps, e, t⟩ := S.tab P hP
  exact ⟨ps, by rw [upd_ne (ne_of_none e hD)]; exact e, t⟩
def cNewT : CE := fun _ => lift fun h => some (.ref h.length, h ++ [.dT []])
def cNewK : CE := fun _ => lift fun h => some (.ref h.length, h ++ [.dK []])
theorem rep_push {K : PySem.W.Frag} {m : MM} {h : AH} {H H' : Hp} {p : Addr} (S : Sim K T m h H) : RepV K (m ++ [some p]) H' (.ref h.length) (.ref p) :=
  ⟨by rw [List.length_append, S.len]; exact Nat.lt_succ_self _, fun a ea => by
    rw [S.len, List.getElem?_append_right (Nat.le_refl _), Nat.sub_self] at ea
    cases ea
    rfl⟩
theorem re_newT : RE X T W (.Dict [] [] pos) cNewT := ⟨PE.imp pe_dnewT fun σ H Q ⟨m, h0, σa, S, RS, A⟩ p hp => by
  obtain ⟨x, h', e, q⟩ := A.lifted
  cases e
  exact q _ _ (Ext.push S hp) (S.pushC hp (.dT upd_same .nil)) _ (rep_push S)⟩
theorem re_newK : RE X T W (.Dict [] [] pos) cNewK := ⟨PE.imp pe_dnewK fun σ H Q ⟨m, h0, σa, S, RS, A⟩ p hp => by
  obtain ⟨x, h', e, q⟩ := A.lifted
  cases e
  exact q _ _ (Ext.push S hp) (S.pushC hp (.dK upd_same .nil)) _ (rep_push S)⟩
/-- d[k] = v -/
def setD (o i v : Val) (h : AH) : Option AH := match o with
  | .ref l => match h[l]? with
    | some (.dK kvs) => match ky1 i with
      | some k => if kvs.length < sizeLine then some (h.set l (.dK (putA kvs k v))) else none
      | none => none
    | some (.dT kvs) => match kyT i with
      | some k => if kvs.length < sizeLine then some (h.set l (.dT (putA kvs k v))) else none
      | none => none
    | _ => none
  | _ => none
theorem cell_dK {K : PySem.W.Frag} {m : MM} {h : AH} {H : Hp} {l : Nat} {v : V} {xs} (S : Sim K T m h H) (r : RepV K m H (.ref l) v) (e : h[l]? = some (.dK xs)) : ∃ a ws, v = .ref a ∧ m[l]? = some (some a) ∧ H a = some (.dK ws) ∧ KvR K m H xs ws := by
  obtain ⟨y, e1, ok⟩ := Paired.at_ S.cell e
  cases ok with
  | dK ha hr => exact ⟨_, _, r.2 _ e1, e1, ha, hr⟩
theorem cell_dT {K : PySem.W.Frag} {m : MM} {h : AH} {H : Hp} {l : Nat} {v : V} {xs} (S : Sim K T m h H) (r : RepV K m H (.ref l) v) (e : h[l]? = some (.dT xs)) : ∃ a ws, v = .ref a ∧ m[l]? = some (some a) ∧ H a = some (.dT ws) ∧ KvR K m H xs ws := by
  obtain ⟨y, e1, ok⟩ := Paired.at_ S.cell e
  cases ok with
  | dT ha hr => exact ⟨_, _, r.2 _ e1, e1, ha, hr⟩
theorem st_dict (hu : X.A.units + 1 < cLine) : PSet X (rSet X.K T setD) := by
  intro pins s σ H o i v ov iv u Q I ro ri rv h
  refine set_dict hu pins s σ H o i v ov iv u Q I ro ri rv ?_
  obtain ⟨m, h0, oa, ia, va, h', S, r1, r2, r3, e, q⟩ := h
  unfold setD at e
  split at e
  · rename_i l
    split at e
    · rename_i kvs hl
      split at e
      · rename_i k hk
        by_cases hz : kvs.length < sizeLine
        · rw [if_pos hz] at e
          cases e
          obtain ⟨a, ws, rfl, em, ha, hr⟩ := cell_dK S r1 hl
          have ek := ky1_rp hk r2
          subst ek
          refine ⟨a, _, rfl, DPut.k ha (by rw [← Paired.len hr]; exact hz), q m _ (Ext.store em _ ⟨_, ha, (fun _ _ z => nomatch z), (fun _ z => nomatch z)⟩) (S.store em (.dK upd_same (KvR.mono (Ext.store em _ ⟨_, ha, (fun _ _ z => nomatch z), (fun _ z => nomatch z)⟩) (hr.put k r3))))⟩
        · rw [if_neg hz] at e; cases e
      · cases e
    · rename_i kvs hl
      split at e
      · rename_i k hk
        by_cases hz : kvs.length < sizeLine
        · rw [if_pos hz] at e
          cases e
          obtain ⟨a, ws, rfl, em, ha, hr⟩ := cell_dT S r1 hl
          obtain ⟨b, rfl, hb⟩ := kyT_rp hk r2
          refine ⟨a, _, rfl, DPut.t ha hb (by rw [← Paired.len hr]; exact hz), q m _ (Ext.store em _ ⟨_, ha, (fun _ _ z => nomatch z), (fun _ z => nomatch z)⟩) (S.store em (.dT upd_same (KvR.mono (Ext.store em _ ⟨_, ha, (fun _ _ z => nomatch z), (fun _ z => nomatch z)⟩) (hr.put k r3))))⟩
        · rw [if_neg hz] at e; cases e
      · cases e
    · cases e
  · cases e
/-- what stands at a key -/
def getD? (o i : Val) (h : AH) : Option (Option Val) := match o with
  | .ref l => match h[l]? with
    | some (.dK kvs) => (ky1 i).map (valA kvs)
    | some (.dT kvs) => (kyT i).map (valA kvs)
    | some (.lT kvs) => (kyT i).map (valA kvs)
    | _ => none
  | _ => none
theorem cell_lT {K : PySem.W.Frag} {T : Tx} {m : MM} {h : AH} {H : Hp} {l : Nat} {xs} (S : Sim K T m h H) (e : h[l]? = some (.lT xs)) : ∃ a od ws, m[l]? = some (some a) ∧ H a = some (.frz od (.dT ws)) ∧ KvR K m H xs ws := by
  obtain ⟨y, e1, ok⟩ := Paired.at_ S.cell e
  cases ok with
  | lT ha hr => exact ⟨_, _, _, e1, ha, hr⟩
theorem dget_of {m : MM} {h : AH} {H : Hp} {o i : Val} {vo vi : V} {r : Option Val} (S : Sim X.K T m h H) (r1 : RepV X.K m H o vo) (r2 : RepV X.K m H i vi) (e : getD? o i h = some r) :
    ∃ a rv, vo = .ref a ∧ DGet H a vi rv ∧ ((r = none ∧ rv = none) ∨ ∃ x w, r = some x ∧ rv = some w ∧ RepV X.K m H x w) := by
  unfold getD? at e
  split at e
  · rename_i l
    split at e
    · rename_i kvs hl
      obtain ⟨k, hk, er⟩ := Option.map_eq_some_iff.mp e
      obtain ⟨a, ws, rfl, em, ha, hr⟩ := cell_dK S r1 hl
      have ek := ky1_rp hk r2
      subst ek
      refine ⟨a, _, rfl, DGet.k ha, ?_⟩
      rw [← er]
      exact hr.val k
    · rename_i kvs hl
      obtain ⟨k, hk, er⟩ := Option.map_eq_some_iff.mp e
      obtain ⟨a, ws, rfl, em, ha, hr⟩ := cell_dT S r1 hl
      obtain ⟨b, rfl, hb⟩ := kyT_rp hk r2
      refine ⟨a, _, rfl, DGet.t ha hb, ?_⟩
      rw [← er]
      exact hr.val k
    · rename_i kvs hl
      obtain ⟨k, hk, er⟩ := Option.map_eq_some_iff.mp e
      obtain ⟨a, od, ws, em, ha, hr⟩ := cell_lT S hl
      obtain ⟨b, rfl, hb⟩ := kyT_rp hk r2
      refine ⟨a, _, r1.2 _ em, .inr ⟨ws, k, b, .inr ⟨od, ha⟩, rfl, hb, rfl⟩, ?_⟩
      rw [← er]
      exact hr.val k
    · cases e
  · cases e
def gDIn : G2 := fun i o h => (getD? o i h).map fun r => (.d (.bool r.isSome), h)
def gDNotIn : G2 := fun i o h => (getD? o i h).map fun r => (.d (.bool (!r.isSome)), h)
def gDGet : G2 := fun o i h => match getD? o i h with
  | some (some v) => some (v, h)
  | _ => none
theorem re_din (hu : X.A.units + 1 < cLine) (hi : RE X T W i ci) (ho : RE X T W o co) (h1 : behindInMarks .In o = false := by rfl) : RE X T W (.Compare i [.In] [o] pos) (cOp gDIn ci co) :=
  ⟨PE.imp (pe_cmp (pc_din hu hi.pe ho.pe) h1) fun σ H Q h => by
    refine tAny_bind h fun m h1 H1 σa x v S RS r A => ?_
    refine ⟨m, h1, σa, S, RS, A.bind.mono fun m2 h2 H2 y E2 S2 A2 w ry => ?_⟩
    obtain ⟨z, h3, e, q⟩ := A2.lifted
    unfold gDIn at e
    obtain ⟨r0, er, ez⟩ := Option.map_eq_some_iff.mp e
    obtain ⟨a, rv, ev, g, hr⟩ := dget_of S2 ry (r.mono E2) er
    cases ez
    refine ⟨a, rv, ev, g, q m2 H2 (Ext.refl _ _) S2 _ ?_⟩
    rcases hr with ⟨rfl, rfl⟩ | ⟨x', w', rfl, rfl, _⟩
    · exact .bl _
    · exact .bl _⟩
theorem re_dnotin (hu : X.A.units + 1 < cLine) (hi : RE X T W i ci) (ho : RE X T W o co) (h1 : behindInMarks .NotIn o = false := by rfl) : RE X T W (.Compare i [.NotIn] [o] pos) (cOp gDNotIn ci co) :=
  ⟨PE.imp (pe_cmp (pc_dnotin hu hi.pe ho.pe) h1) fun σ H Q h => by
    refine tAny_bind h fun m h1 H1 σa x v S RS r A => ?_
    refine ⟨m, h1, σa, S, RS, A.bind.mono fun m2 h2 H2 y E2 S2 A2 w ry => ?_⟩
    obtain ⟨z, h3, e, q⟩ := A2.lifted
    unfold gDNotIn at e
    obtain ⟨r0, er, ez⟩ := Option.map_eq_some_iff.mp e
    obtain ⟨a, rv, ev, g, hr⟩ := dget_of S2 ry (r.mono E2) er
    cases ez
    refine ⟨a, rv, ev, g, q m2 H2 (Ext.refl _ _) S2 _ ?_⟩
    rcases hr with ⟨rfl, rfl⟩ | ⟨x', w', rfl, rfl, _⟩
    · exact .bl _
    · exact .bl _⟩
theorem re_dget (hu : X.A.units + 1 < cLine) (ho : RE X T W o co) (hi : RE X T W i ci) (hs : NoSl i := by exact fun _ _ => rfl) : RE X T W (.Subscript o i pos) (cOp gDGet co ci) :=
  ⟨PE.imp (pe_dget hu ho.pe hi.pe hs) fun σ H Q h => by
    refine tAny_bind h fun m h1 H1 σa x v S RS r A => ?_
    refine ⟨m, h1, σa, S, RS, A.bind.mono fun m2 h2 H2 y E2 S2 A2 w ry => ?_⟩
    obtain ⟨z, h3, e, q⟩ := A2.lifted
    unfold gDGet at e
    split at e
    · rename_i v0 er
      cases e
      obtain ⟨a, rv, ev, g, hr⟩ := dget_of S2 (r.mono E2) ry er
      rcases hr with ⟨h0, _⟩ | ⟨x', w', e1, rfl, rr⟩
      · cases h0
      · cases e1
        exact ⟨a, w', ev, g, q m2 H2 (Ext.refl _ _) S2 _ rr⟩
    · cases e⟩
/-- list(d): the keys, new data -/
def gListD : GA := fun xs h => match xs with
  | [.ref l] => match h[l]? with
    | some (.dK kvs) => some (.d (.list (kvs.map fun kv => dOfK kv.1)), h)
    | some (.dT kvs) => some (.d (.list (kvs.map fun kv => .tuple (kv.1.map dOfK))), h)
    | _ => none
  | _ => none
end
theorem keysK_rp {K : PySem.W.Frag} {m : MM} {H : Hp} {kvs : List (Key × Val)} {ws : List (Key × V)} (hr : KvR K m H kvs ws) : RpL K m H (kvs.map fun kv => dOfK kv.1) (ws.map fun kv => kV kv.1) := by
  induction hr with
  | nil => exact .nil
  | cons e t ih =>
    refine .cons ?_ ih
    dsimp only
    rw [e.1]
    exact dOfK_rp _
theorem keysT_rp {K : PySem.W.Frag} {T : Tx} {m : MM} {h : AH} {H : Hp} (S : Sim K T m h H) {kvs : List (List Key × Val)} {ws : List (List Key × V)} (hr : KvR K m H kvs ws) : ∀ {bs : List Addr}, IsKeys H ws bs →
    RpL K m H (kvs.map fun kv => .tuple (kv.1.map dOfK)) (bs.map V.ref) := by
  induction hr with
  | nil => intro bs hk; cases hk; exact .nil
  | cons e t ih =>
    intro bs hk
    cases hk with
    | cons e2 t2 =>
      refine .cons ?_ (ih t2)
      dsimp only
      rw [e.1]
      exact S.keyT e2
/-- the keys of a dict of each kind -/
theorem k_listD {X : Cx} {T : Tx} (hc : X.calm = true) : CallR X (.type "list") (rA X.K T gListD) := by
  intro pins s σ H xs us Q I rx h
  obtain ⟨m, h0, as, z, h', S, r, e, q⟩ := h
  unfold gListD at e
  split at e
  · rename_i l
    obtain ⟨v, rfl, rv⟩ := paired1 r
    split at e
    · rename_i kvs hl
      cases e
      obtain ⟨a, ws, rfl, em, ha, hr⟩ := cell_dK S rv hl
      exact call_list_dK hc pins s σ H _ us Q I rx ⟨a, ws, rfl, ha, fun p hp => q m _ (Ext.new S hp) (S.new hp) _ (rp_newL S hp (keysK_rp hr))⟩
    · rename_i kvs hl
      cases e
      obtain ⟨a, ws, rfl, em, ha, hr⟩ := cell_dT S rv hl
      exact call_list_dT hc pins s σ H _ us Q I rx ⟨a, ws, rfl, .inl ha, fun p bs hp hk => q m _ (Ext.new S hp) (S.new hp) _ (rp_newL S hp (keysT_rp S hr hk))⟩
    · cases e
  · cases e
end MV
namespace MV
open PySem PySem.Spec PyProof.Rows L2
section
variable {X : Cx} {T : Tx} {W : WX} {k : Nat} {e a b c : Expr} {es : List Expr} {pos p p2 p3 : Pos} {ce ca cb : CE} {cr : CA}
/-! ### a tuple of targets from a display -/
def sByA (e : CA) (k : List Val → CS) : CS := fun σ h => match e σ h with
  | some (.ok x, h') => k x σ h'
  | some (.exn n fs, h') => some (.ex σ n fs, h')
  | none => none
theorem by_tA {ks : List Val → CS} {σ : L2.St} {H : Hp} {D : Ends} {Q : List V → Hp → Prop} (h : tS X T W (sByA cr ks) D σ H)
    (f : ∀ m h1 H1 σa x v, Sim X.K T m h1 H1 → RepS X.K m H1 σa σ → RepVs X.K m H1 x v → AftS X.K T W m H1 (ks x σa h1) D → Q v H1) : tA X T W cr σ H Q := by
  obtain ⟨m, h0, σa, S, RS, fl, h', e, q⟩ := h
  refine ⟨m, h0, σa, S, RS, ?_⟩
  cases hc : cr σa h0 with
  | none => unfold sByA at e; rw [hc] at e; cases e
  | some p =>
    obtain ⟨r, h1⟩ := p
    cases r with
    | ok x =>
      have e0 : sByA cr ks σa h0 = ks x σa h1 := by unfold sByA; rw [hc]
      rw [e0] at e
      exact ⟨.ok x, h1, rfl, fun m' H' E S' v r => f m' h1 H' σa x v S' (RS.mono E) r (AftS.lower E ⟨fl, h', e, q⟩)⟩
    | exn n fs =>
      unfold sByA at e; rw [hc] at e; cases e
      exact ⟨.exn n fs, h', rfl, fun m' H' cls d E S' z => q m' H' σ cls d E S' (RS.mono E) z⟩
def sTup (gs : List CG) (cr : CA) : CS := sByA cr fun xs σ h => if xs.length ≤ sizeLine then match gAll gs xs h with
    | some ups => some (.nx (setAll σ ups), h)
    | none => none
  else none
theorem rs_tup {tgs es : List Expr} {ns : List Nat} {gs : List CG} {kt k2 : Nat} {pt pt2 : Pos} (hc : X.calm = true) (ha : RA X T W es cr) (hg : RGs X T tgs ns gs) (hn : (assignEach tgs X.env).length = gs.length := by rfl) (hst : (assignEach tgs X.env).findIdx? (·.1) = none := by rfl)
    (hs : swapsWithSole [.Tuple tgs kt pt] (.Tuple es k2 pt2) pos.line X.env = pure false := by rfl) (hw : swappedStores [.Tuple tgs kt pt] (.Tuple es k2 pt2) X.env = pure none := by rfl)
    (h1 : (assignEach [.Tuple tgs kt pt] X.env).map (·.2) = [assign (.Tuple tgs kt pt) X.env] := by rfl) : RS X T W (.Assign [.Tuple tgs kt pt] (.Tuple es k2 pt2) pos) (sTup gs cr) :=
  ⟨PS.imp (ps_asg (pe_tup ha.pa) (pg_tup hc hg.pgs hn hst) hs hw h1) fun D σ H h => by
    refine by_tA h fun m h1 H1 σa xs vs S RS r A => ?_
    obtain ⟨f, h', e, q⟩ := A
    by_cases hz : xs.length ≤ sizeLine
    · rw [if_pos hz] at e
      cases hga : gAll gs xs h1 with
      | none => rw [hga] at e; cases e
      | some ups =>
        rw [hga] at e; cases e
        refine ⟨by rw [← Paired.len r]; exact hz, fun p hp => ?_⟩
        have E := Ext.new (o := .tup vs) S hp
        exact ⟨p, vs, rfl, .inl (.inl upd_same), by rw [← Paired.len r]; exact hg.len _ _ _ hga, m, h1, xs, ups, S.new hp, r.mono E, hga, fun ws hw => q m _ _ E (S.new hp) ((RS.mono E).setAll hw)⟩
    · rw [if_neg hz] at e; cases e⟩
theorem rs_par2 {i j : Nat} {x y : Str} {px py pt pt2 : Pos} {kt k2 : Nat} (hc : X.calm = true) (nd : X.N.Nodup) (ha : RA X T W [a, b] cr) (hi : X.N[i]? = some x := by rfl) (hj : X.N[j]? = some y := by rfl) (hij : i ≠ j := by decide)
    (hx : X.env.scope.names.lookup x = some .local := by rfl) (hy : X.env.scope.names.lookup y = some .local := by rfl)
    (hw : swappedStores [.Tuple [.Name x px, .Name y py] kt pt] (.Tuple [a, b] k2 pt2) X.env = pure (some [x, y]) := by rfl)
    (hs : swapsWithSole [.Tuple [.Name x px, .Name y py] kt pt] (.Tuple [a, b] k2 pt2) pos.line X.env = pure false := by rfl) :
    RS X T W (.Assign [.Tuple [.Name x px, .Name y py] kt pt] (.Tuple [a, b] k2 pt2) pos) (sTup [gN i, gN j] cr) :=
  ⟨PS.imp (ps_par hc nd hi hj hij hx hy ha.pa hw hs) fun D σ H h => by
    refine by_tA h fun m h1 H1 σa xs vs S RS r A => ?_
    obtain ⟨f, h', e, q⟩ := A
    by_cases hz : xs.length ≤ sizeLine
    · rw [if_pos hz] at e
      cases hga : gAll [gN i, gN j] xs h1 with
      | none => rw [hga] at e; cases e
      | some ups =>
        rw [hga] at e; cases e
        obtain ⟨d1, ds1, u1, w1, rfl, e1, e2, rfl⟩ := gAll_cons hga
        obtain ⟨d2, ds2, u2, w2, rfl, e3, e4, rfl⟩ := gAll_cons e2
        cases ds2 with
        | cons _ _ => cases e4
        | nil =>
          cases e1; cases e3; cases e4
          cases r with
          | cons r1 rr => cases rr with
            | cons r2 rr => cases rr with
              | nil => exact ⟨_, _, rfl, q m H1 _ (Ext.refl _ _) S (RS.setAll (ups := [(i, d1), (j, d2)]) (ws := [(i, _), (j, _)]) (.cons ⟨rfl, r1⟩ (.cons ⟨rfl, r2⟩ .nil)))⟩
    · rw [if_neg hz] at e; cases e⟩
theorem rs_par3 {i j l : Nat} {x y z : Str} {px py pz pt pt2 : Pos} {kt k2 : Nat} (hc : X.calm = true) (nd : X.N.Nodup) (ha : RA X T W [a, b, c] cr) (hi : X.N[i]? = some x := by rfl) (hj : X.N[j]? = some y := by rfl) (hl : X.N[l]? = some z := by rfl) (hij : i ≠ j := by decide) (hil : i ≠ l := by decide) (hjl : j ≠ l := by decide)
    (hx : X.env.scope.names.lookup x = some .local := by rfl) (hy : X.env.scope.names.lookup y = some .local := by rfl) (hz : X.env.scope.names.lookup z = some .local := by rfl)
    (hw : swappedStores [.Tuple [.Name x px, .Name y py, .Name z pz] kt pt] (.Tuple [a, b, c] k2 pt2) X.env = pure (some [x, y, z]) := by rfl)
    (hs : swapsWithSole [.Tuple [.Name x px, .Name y py, .Name z pz] kt pt] (.Tuple [a, b, c] k2 pt2) pos.line X.env = pure false := by rfl) :
    RS X T W (.Assign [.Tuple [.Name x px, .Name y py, .Name z pz] kt pt] (.Tuple [a, b, c] k2 pt2) pos) (sTup [gN i, gN j, gN l] cr) :=
  ⟨PS.imp (ps_par3 hc nd hi hj hl hij hil hjl hx hy hz ha.pa hw hs) fun D σ H h => by
    refine by_tA h fun m h1 H1 σa xs vs S RS r A => ?_
    obtain ⟨f, h', e, q⟩ := A
    by_cases hz : xs.length ≤ sizeLine
    · rw [if_pos hz] at e
      cases hga : gAll [gN i, gN j, gN l] xs h1 with
      | none => rw [hga] at e; cases e
      | some ups =>
        rw [hga] at e; cases e
        obtain ⟨d1, ds1, u1, w1, rfl, e1, e2, rfl⟩ := gAll_cons hga
        obtain ⟨d2, ds2, u2, w2, rfl, e3, e4, rfl⟩ := gAll_cons e2
        obtain ⟨d3, ds3, u3, w3, rfl, e5, e6, rfl⟩ := gAll_cons e4
        cases ds3 with
        | cons _ _ => cases e6
        | nil =>
          cases e1; cases e3; cases e5; cases e6
          cases r with
          | cons r1 rr => cases rr with
            | cons r2 rr => cases rr with
              | cons r3 rr => cases rr with
                | nil => exact ⟨_, _, _, rfl, q m H1 _ (Ext.refl _ _) S (RS.setAll (ups := [(i, d1), (j, d2), (l, d3)]) (ws := [(i, _), (j, _), (l, _)]) (.cons ⟨rfl, r1⟩ (.cons ⟨rfl, r2⟩ (.cons ⟨rfl, r3⟩ .nil))))⟩
    · rw [if_neg hz] at e; cases e⟩
/-! ### is -/
def isNon : Val → Bool
  | .d .none => true
  | _ => false
theorem isNon_rp {K : PySem.W.Frag} {m : MM} {h : AH} {H : Hp} {x : Val} {v : V} (S : Sim K T m h H) (r : RepV K m H x v) (hx : ∀ l, x = .ref l → ∃ c, h[l]? = some c ∧ c ≠ .dead) : decide (v = .non) = isNon x := by
  cases x with
  | d y =>
    cases y with
    | none => cases (show Rp K m H .none v from r); rfl
    | bool b => cases (show Rp K m H (.bool b) v from r); rfl
    | int b => cases (show Rp K m H (.int b) v from r); rfl
    | str b => cases (show Rp K m H (.str b) v from r); rfl
    | list b => cases (show Rp K m H (.list b) v from r); rfl
    | tuple b => cases (show Rp K m H (.tuple b) v from r); rfl
    | dict b => cases (show Rp K m H (.dict b) v from r)
  | fl ds =>
    obtain ⟨a, vs, rfl, _⟩ := r
    rfl
  | ref l =>
    obtain ⟨c, hl, hd⟩ := hx l rfl
    obtain ⟨y, e1, ok⟩ := Paired.at_ S.cell hl
    cases ok with
    | dead => exact absurd rfl hd
    | lst _ _ => rw [r.2 _ e1]; rfl
    | dK _ _ => rw [r.2 _ e1]; rfl
    | dT _ _ => rw [r.2 _ e1]; rfl
    | ins _ _ => rw [r.2 _ e1]; rfl
    | lT _ _ => rw [r.2 _ e1]; rfl
    | lK _ _ => rw [r.2 _ e1]; rfl
    | lL _ _ => rw [r.2 _ e1]; rfl
def live (x : Val) (h : AH) : Bool := match x with
  | .ref l => match h[l]? with
    | some .dead => false
    | some _ => true
    | none => false
  | _ => true
theorem live_ok {x : Val} {h : AH} (e : live x h = true) : ∀ l, x = .ref l → ∃ c, h[l]? = some c ∧ c ≠ .dead := by
  rintro l rfl
  unfold live at e
  simp only at e
  split at e
  · cases e
  · rename_i c hc hl
    exact ⟨c, hl, fun z => hc z⟩
  · cases e
def cIsN (s : Bool) (e : CE) : CE := fun σ => bnd (e σ) fun x => lift fun h => if live x h = true then some (.d (.bool (if s = true then isNon x else !isNon x)), h) else none
theorem re_isN {j : Nat} {pos' : Pos} (he : RE X T W e ce) : RE X T W (.Compare e [.Is] [.Constant .none j pos'] pos) (cIsN true ce) := ⟨PE.imp (pe_cmp (pc_isN he.pe)) fun σ H Q h => by
  refine tAny_bind h fun m h1 H1 σa x v S RS r A => ?_
  obtain ⟨z, h', e, q⟩ := A.lifted
  by_cases hl : live x h1 = true
  · rw [if_pos hl] at e; cases e
    refine q m H1 (Ext.refl _ _) S _ ?_
    rw [if_pos rfl, ← isNon_rp S r (live_ok hl)]
    exact .bl _
  · rw [if_neg hl] at e; cases e⟩
theorem re_notN {j : Nat} {pos' : Pos} (he : RE X T W e ce) : RE X T W (.Compare e [.IsNot] [.Constant .none j pos'] pos) (cIsN false ce) := ⟨PE.imp (pe_cmp (pc_notN he.pe)) fun σ H Q h => by
  refine tAny_bind h fun m h1 H1 σa x v S RS r A => ?_
  obtain ⟨z, h', e, q⟩ := A.lifted
  by_cases hl : live x h1 = true
  · rw [if_pos hl] at e; cases e
    refine q m H1 (Ext.refl _ _) S _ ?_
    rw [if_neg Bool.false_ne_true, ← isNon_rp S r (live_ok hl)]
    exact .bl _
  · rw [if_neg hl] at e; cases e⟩
def dIsB : PyData → PyData → Option PyData
  | .bool i, .bool j => some (.bool (decide (i = j)))
  | _, _ => none
def dNotB : PyData → PyData → Option PyData
  | .bool i, .bool j => some (.bool (!decide (i = j)))
  | _, _ => none
theorem o_isB : OpR X (compareOp .Is) (rP X.K T (gD dIsB)) := by
  intro pins s σ H x y v u Q I rx ry h
  obtain ⟨m, h0, a, b, z, h', S, ra, rb, e, q⟩ := h
  obtain ⟨d1, d2, d3, e1, e2, e3, rfl, rfl⟩ := gD_some e
  unfold dIsB at e3
  split at e3
  · cases e3
    cases view_bl S ra e1
    cases view_bl S rb e2
    exact op_isBl pins s σ H _ _ v u Q I rx ry ⟨_, _, rfl, rfl, q m H (Ext.refl _ _) S _ (.bl _)⟩
  · cases e3
theorem o_notB : OpR X (compareOp .IsNot) (rP X.K T (gD dNotB)) := by
  intro pins s σ H x y v u Q I rx ry h
  obtain ⟨m, h0, a, b, z, h', S, ra, rb, e, q⟩ := h
  obtain ⟨d1, d2, d3, e1, e2, e3, rfl, rfl⟩ := gD_some e
  unfold dNotB at e3
  split at e3
  · cases e3
    cases view_bl S ra e1
    cases view_bl S rb e2
    exact op_notBl pins s σ H _ _ v u Q I rx ry ⟨_, _, rfl, rfl, q m H (Ext.refl _ _) S _ (.bl _)⟩
  · cases e3
/-! ### minus, min, max, <= of tuples, a list times a number -/
def cNeg (e : CE) : CE := fun σ => bnd (e σ) fun x => lift fun h => match viewD x h with
  | some (.int i) => some (.d (.int (-i)), h)
  | _ => none
theorem re_neg (he : RE X T W e ce) : RE X T W (.UnaryOp .USub e pos) (cNeg ce) := ⟨PE.imp (pe_un un_neg he.pe) fun σ H Q h => by
  refine tAny_bind h fun m h1 H1 σa x v S RS r A => ?_
  obtain ⟨z, h', e, q⟩ := A.lifted
  split at e
  · rename_i i hi
    cases e
    cases view_int S r hi
    exact ⟨i, rfl, q m H1 (Ext.refl _ _) S _ (.int _)⟩
  · cases e⟩
theorem rt_isN {j : Nat} {pos' : Pos} (he : RE X T W e ce) : RT X T W (.Compare e [.Is] [.Constant .none j pos'] pos) (cTest (cIsN true ce)) := ⟨PT.imp (pt_cmp (pc_isN he.pe)) fun σ H Q h => by
  refine tAny_bind (tT_test h) fun m h1 H1 σa x v S RS r A => ?_
  obtain ⟨z, h', e, q⟩ := A.lifted
  by_cases hl : live x h1 = true
  · rw [if_pos hl] at e; cases e
    refine q m H1 (Ext.refl _ _) S _ ?_
    rw [if_pos rfl, ← isNon_rp S r (live_ok hl)]
    exact .bl _
  · rw [if_neg hl] at e; cases e⟩
theorem rt_notN {j : Nat} {pos' : Pos} (he : RE X T W e ce) : RT X T W (.Compare e [.IsNot] [.Constant .none j pos'] pos) (cTest (cIsN false ce)) := ⟨PT.imp (pt_cmp (pc_notN he.pe)) fun σ H Q h => by
  refine tAny_bind (tT_test h) fun m h1 H1 σa x v S RS r A => ?_
  obtain ⟨z, h', e, q⟩ := A.lifted
  by_cases hl : live x h1 = true
  · rw [if_pos hl] at e; cases e
    refine q m H1 (Ext.refl _ _) S _ ?_
    rw [if_neg Bool.false_ne_true, ← isNon_rp S r (live_ok hl)]
    exact .bl _
  · rw [if_neg hl] at e; cases e⟩
/-- any data as a test -/
def truD : PyData → Option Bool
  | .none => some false
  | .bool b => some b
  | .int i => some (i != 0)
  | .str y => if y.length ≤ sizeLine then some ((y.length : Int) != 0) else none
  | .list ds => some (!ds.isEmpty)
  | .tuple ds => some (!ds.isEmpty)
  | _ => none
def cTru (e : CE) : CT := fun σ => bnd (e σ) fun x => lift fun h => match viewD x h with
  | some d => (truD d).map fun b => (b, h)
  | none => none
theorem rt_tru (ha : RE X T W e ce) (he : ∀ whole, isTrue e X.env whole = (do let v ← whole; standAt e.pos; holding [v] (truthy v)) := by intro _; rfl) : RT X T W e (cTru ce) := ⟨PT.imp (pt_truth ha.pe he) fun σ H Q h => by
  refine tAny_bind h fun m h1 H1 σa x v S RS r A => ?_
  obtain ⟨b, h', e, q⟩ := A.lifted
  cases hx : viewD x h1 with
  | none => simp only [hx] at e; cases e
  | some d =>
    simp only [hx] at e
    obtain ⟨b', eb, ez⟩ := Option.map_eq_some_iff.mp e
    cases ez
    have q := q m H1 (Ext.refl _ _) S b rfl
    refine ⟨b, ?_, q⟩
    cases d with
    | list ds =>
      obtain ⟨a, vs, rfl, hs, t⟩ := view_list S r hx
      cases eb
      exact .inl ⟨vs, hs, by cases t <;> rfl⟩
    | tuple ds =>
      obtain ⟨a, vs, rfl, hs, t⟩ := view_tup S r hx
      cases eb
      exact .inr (.inl ⟨vs, hs.sq, by cases t <;> rfl⟩)
    | none =>
      cases view_d S r hx (fun _ z => by cases z)
      cases eb; rfl
    | bool _ =>
      cases view_d S r hx (fun _ z => by cases z)
      cases eb; rfl
    | int _ =>
      cases view_d S r hx (fun _ z => by cases z)
      cases eb; rfl
    | str y =>
      cases view_d S r hx (fun _ z => by cases z)
      unfold truD at eb
      simp only at eb
      by_cases hz : y.length ≤ sizeLine
      · rw [if_pos hz] at eb; cases eb; exact ⟨hz, rfl⟩
      · rw [if_neg hz] at eb; cases eb
    | dict _ => cases eb⟩
end
theorem Cok.h64 {X W k} (C : Cok X W k) : X.A.units + 64 < cLine := C.room.units
theorem Cok.h65 {X W k} (C : Cok X W k) : X.A.units + 65 < cLine := by have := C.room.un; omega
theorem Cok.h1 {X W k} (C : Cok X W k) : X.A.units + 1 < cLine := by have := C.room.un; omega
theorem Cok.h0 {X W k} (C : Cok X W k) : X.A.units < cLine := by have := C.room.un; omega
end MV
namespace MV
open PySem PySem.Spec PyProof.Rows L2
/-! More operators: <= of tuples of ints, a list times an int. -/
section
variable {X : Cx} {T : Tx}
def intsW : List PyData → Option (List Int)
  | [] => some []
  | .int i :: r => (intsW r).map (i :: ·)
  | _ => none
theorem intsW_rep {K : PySem.W.Frag} {m : MM} {H : Hp} : ∀ {ds : List PyData} {ns : List Int} {vs : List V}, intsW ds = some ns → RpL K m H ds vs → vs = ns.map V.int
  | [], _, _, e, r => by cases e; cases r; rfl
  | d :: ds, ns, vs, e, r => by
    cases d with
    | int i =>
      obtain ⟨ns', e', en⟩ := map_some (show (intsW ds).map (i :: ·) = some ns from e)
      subst en
      cases r with
      | cons r1 r2 =>
        cases r1
        rw [intsW_rep e' r2]
        rfl
    | _ => cases e
theorem intsW_map : ∀ ns : List Int, intsW (ns.map .int) = some ns
  | [] => rfl
  | n :: ns => by
    show (intsW (ns.map .int)).map (n :: ·) = _
    rw [intsW_map ns]
    rfl
def leI (ns ms : List Int) : Bool := Ob.lexAt (fun j => decide (ns.getD j 0 = ms.getD j 0)) (fun j => decide (ns.getD j 0 ≤ ms.getD j 0)) (decide (ns.length ≤ ms.length)) 0 (min ns.length ms.length)
/-- <= of ints, of tuples of ints -/
def dLeT : PyData → PyData → Option PyData
  | .int i, .int j => some (.bool (decide (i ≤ j)))
  | .tuple a, .tuple b => match intsW a, intsW b with
    | some ns, some ms => some (.bool (leI ns ms))
    | _, _ => none
  | _, _ => none
theorem o_leT (hu : X.A.units < cLine) : OpR X (compareOp .LtE) (rP X.K T (gD dLeT)) := by
  intro pins s σ H x y v u Q I rx ry h
  obtain ⟨m, h0, a, b, z, h', S, ra, rb, e, q⟩ := h
  obtain ⟨d1, d2, d3, e1, e2, e3, rfl, rfl⟩ := gD_some e
  unfold dLeT at e3
  split at e3
  · cases e3
    cases view_int S ra e1
    cases view_int S rb e2
    exact op_le pins s σ H _ _ v u Q I rx ry ⟨_, _, rfl, rfl, q m H (Ext.refl _ _) S _ (.bl _)⟩
  · rename_i xs ys
    split at e3
    · rename_i ns ms en em
      cases e3
      obtain ⟨p, vs, rfl, hp, tp⟩ := view_tup S ra e1
      obtain ⟨p2, vs2, rfl, hp2, tp2⟩ := view_tup S rb e2
      cases intsW_rep en tp
      cases intsW_rep em tp2
      exact op_leT hu pins s σ H _ _ v u Q I rx ry ⟨p, p2, ns, ms, rfl, rfl, hp.sq, hp2.sq, q m H (Ext.refl _ _) S _ (.bl _)⟩
    · cases e3
  · cases e3
/-- a list of ours times an int -/
def dRep : PyData → PyData → Option PyData
  | .list ds, .int k => if (-(2 ^ 63) ≤ k ∧ k < 2 ^ 63) ∧ ds.length * k.toNat ≤ sizeLine then some (.list (List.replicate k.toNat ds).flatten) else none
  | _, _ => none
theorem rep_rep {K : PySem.W.Frag} {m : MM} {H : Hp} {ds : List PyData} {vs : List V} (r : RpL K m H ds vs) : ∀ k : Nat, RpL K m H (List.replicate k ds).flatten (List.replicate k vs).flatten
  | 0 => .nil
  | k + 1 => by
    rw [List.replicate_succ, List.replicate_succ, List.flatten_cons, List.flatten_cons]
    exact r.append (rep_rep r k)
theorem o_rep : OpR X (binaryOp .Mult) (rP X.K T (gDM dRep)) := by
  intro pins s σ H x y v u Q I rx ry h
  obtain ⟨m, h0, a, b, z, h', S, ra, rb, e, q⟩ := h
  obtain ⟨d1, d2, d3, e1, e2, e3, rfl, rfl⟩ := gDM_some e
  unfold dRep at e3
  split at e3
  · rename_i ds k
    by_cases hz : (-(2 ^ 63) ≤ k ∧ k < 2 ^ 63) ∧ ds.length * k.toNat ≤ sizeLine
    · rw [if_pos hz] at e3
      cases e3
      obtain ⟨p, vs, rfl, hp, tp⟩ := viewM_list S ra e1
      cases view_int S rb (viewM_D e2)
      refine op_rep pins s σ H _ _ v u Q I rx ry ⟨p, k, vs, rfl, rfl, hp, hz.1.1, hz.1.2, by rw [← tp.length]; exact hz.2, fun p3 hp3 => ?_⟩
      exact q m _ (Ext.new S hp3) (S.new hp3) _ (rp_newL S hp3 (rep_rep tp _))
    · rw [if_neg hz] at e3; cases e3
  · cases e3
abbrev gRep : G2 := gDM dRep
/-! ### min of two, range of three -/
def fMin (a b : PyData) : Option PyData := match a, b with
  | .int i, .int j => some (.int (if j < i then j else i))
  | _, _ => none
/-- a function of two values that are data -/
def g2 (f : PyData → PyData → Option PyData) : GA := fun xs h => match xs with
  | [x, y] => match viewD x h, viewD y h with
    | some a, some b => (f a b).map fun z => (.d z, h)
    | _, _ => none
  | _ => none
theorem g2_some {f : PyData → PyData → Option PyData} {xs : List Val} {h h' : AH} {z : Val} (e : g2 f xs h = some (z, h')) : ∃ x y a b c, xs = [x, y] ∧ viewD x h = some a ∧ viewD y h = some b ∧ f a b = some c ∧ z = .d c ∧ h' = h := by
  unfold g2 at e
  split at e
  · split at e
    · rename_i x y a b e1 e2
      obtain ⟨c, e3, e4⟩ := map_some e
      cases e4
      exact ⟨_, _, _, _, _, rfl, e1, e2, e3, rfl, rfl⟩
    · cases e
  · cases e
theorem k_min2 (hc : X.calm = true) : CallR X (.builtin "min") (rA X.K T (g2 fMin)) := by
  intro pins s σ H vs us Q I r hh
  obtain ⟨m, h0, xs, z, h', S, rv, e, q⟩ := hh
  obtain ⟨x, y, a, b, c, rfl, e1, e2, e3, rfl, rfl⟩ := g2_some e
  unfold fMin at e3
  split at e3
  · cases e3
    cases rv with
    | cons r1 rv =>
      cases rv with
      | cons r2 rv =>
        cases rv
        cases view_int S r1 e1
        cases view_int S r2 e2
        exact call_min2 hc pins s σ H _ us Q I r ⟨_, _, rfl, q m H (Ext.refl _ _) S _ (.int _)⟩
  · cases e3
theorem g2_ok {f : PyData → PyData → Option PyData} {x y : Val} {h : AH} {a b c : PyData} (e1 : viewD x h = some a) (e2 : viewD y h = some b) (e3 : f a b = some c) : g2 f [x, y] h = some (.d c, h) := by
  unfold g2
  simp only [e1, e2, e3, Option.map_some]
/-- lo, lo + c, .. -/
def intC (lo c : Int) (n : Nat) : List PyData := (List.range n).map fun i => .int (lo + (i : Nat) * c)
theorem intC_length (lo c : Int) (n : Nat) : (intC lo c n).length = n := by unfold intC; rw [List.length_map, List.length_range]
theorem intC_get {lo c : Int} {n i : Nat} (h : i < n) : (intC lo c n)[i]? = some (.int (lo + (i : Nat) * c)) := by
  unfold intC
  rw [List.getElem?_map, List.getElem?_range h]
  rfl
theorem itC {K : PySem.W.Frag} {T : Tx} {m : MM} {H : Hp} {lo c : Int} {n : Nat} : ItOk K T m H ((intC lo c n).map .d) (Itc lo c n) := by
  have hl : ((intC lo c n).map Val.d).length = n := by rw [List.length_map, intC_length]
  refine ⟨fun m1 h1 H1 i E S hi => by rw [hl] at hi; exact hi, fun m1 h1 H1 i x H' E S hi y => ?_, fun m1 h1 H1 i E S hi => by rw [hl] at hi; exact hi⟩
  obtain ⟨rfl, rfl⟩ := y
  rw [hl] at hi
  exact ⟨.d (.int (lo + (i : Nat) * c)), m1, by rw [List.getElem?_map, intC_get hi]; rfl, Ext.refl _ _, S, .int _⟩
instance (i j c : Int) (n : Nat) : Decidable (RgC i j c n) := by unfold RgC; infer_instance
def iRange3 : List Val → O (List Val) := fun xs h => match xs with
  | [.d (.int i), .d (.int j), .d (.int c)] => if RgC i j c ((Builtin.Range.rangeSize i j c).toNat) then some ((intC i c ((Builtin.Range.rangeSize i j c).toNat)).map .d, h) else none
  | _ => none
end
section
variable {X : Cx} {T : Tx} {W : WX} {a b c tg : Expr} {pos p : Pos} {cr : CA}
theorem ri_range3 (hg : Gl X "range") (hm : X.mg "range" = none) (ha : RA X T W [a, b, c] cr) (hs : starEach [a, b, c] X.env = (false, eval a X.env) :: starEach [b, c] X.env := by rfl) (hpl : (backTo pos (starEach [b, c] X.env)).any (·.1) = false := by rfl) :
    RI X T W tg (.Call (.Name "range" p) [a, b, c] [] pos) (cIterA iRange3 cr) := ⟨PI.imp (pi_range3 hg hm ha.pa hs hpl) fun σ H R ⟨m, h, σa, S, RS, A⟩ => ⟨m, h, σa, S, RS, A.bind.mono fun m1 h1 H1 x E S1 A1 v r => by
  obtain ⟨xs, h2, e, q⟩ := A1.lifted
  unfold iRange3 at e
  split at e
  · rename_i i j c
    by_cases hj : RgC i j c ((Builtin.Range.rangeSize i j c).toNat)
    · rw [if_pos hj] at e; cases e
      cases r with
      | cons r rr =>
        cases rr with
        | cons r2 rr =>
          cases rr with
          | cons r3 rr =>
            cases rr
            cases (show Rp X.K m1 H1 (.int i) _ from r)
            cases (show Rp X.K m1 H1 (.int j) _ from r2)
            cases (show Rp X.K m1 H1 (.int c) _ from r3)
            exact ⟨i, j, c, _, rfl, hj, q m1 H1 (Ext.refl _ _) S1 _ itC⟩
    · rw [if_neg hj] at e; cases e
  · cases e⟩⟩
end
end MV
namespace MV
open PySem PySem.Spec PyProof.Rows L2
/-! A comprehension of two clauses. -/
def lcO (g : CG) (ct : CT) (ci1 : CI) (vs1 : List Nat) (g1 : CG) (ct1 : CT) (ce : CE) (L : Nat) (σ : SA) : List Val → AH → Option AH
  | [], h => some h
  | x :: xs, h => match g x h with
    | none => none
    | some ups => match ct (setAll σ ups) h with
      | some (.ok false, h1) => lcO g ct ci1 vs1 g1 ct1 ce L σ xs h1
      | some (.ok true, h1) => match ci1 (setAll σ ups) h1 with
        | some (.ok ys, h2) => (lcL g1 ct1 ce L (wipeA (setAll σ ups) vs1) ys h2).bind fun h3 => lcO g ct ci1 vs1 g1 ct1 ce L σ xs h3
        | _ => none
      | _ => none
def cLc2 (ci : CI) (own : List Nat) (g : CG) (ct : CT) (ci1 : CI) (vs1 : List Nat) (g1 : CG) (ct1 : CT) (ce : CE) : CE := fun σ => bnd (ci σ) fun xs => lift fun h => (lcO g ct ci1 vs1 g1 ct1 ce h.length (wipeA σ own) xs (h ++ [.lst []])).bind (lcEnd h.length)
section
variable {X : Cx} {T : Tx} {W : WX} {k : Nat} {elt tg iter tg1 iter1 : Expr} {ifs ifs1 : List Expr} {pos p : Pos} {ce : CE} {ct ct1 : CT} {ci ci1 : CI} {ns ns1 vs1 : List Nat} {g g1 : CG}
theorem lc2_read {own : List (Str × Nat)} {σ : L2.St} {H : Hp} {Q : VK} (hns : ∀ i ∈ ns, i ∈ own.map (·.2)) (hn : ∀ x h ups, g x h = some ups → ups.map (·.1) = ns) (hns1 : ∀ i ∈ ns1, i ∈ vs1) (hn1 : ∀ x h ups, g1 x h = some ups → ups.map (·.1) = ns1)
    (h : tE X T W (cLc2 ci (own.map (·.2)) g ct ci1 vs1 g1 ct1 ce) σ H Q) : tLc2 (tI X T W ci) (tG X.K T g) (tT X T W0 ct) (tI X T W0 ci1) (tG X.K T g1) (tT X T W0 ct1) (tE X T W0 ce) (own.map (·.2)) vs1 σ H Q := by
  obtain ⟨m, h0, σa, S, RS, A⟩ := h
  refine ⟨m, h0, σa, S, RS, A.bind.mono fun m1 h1 H1 xs E1 S1 A1 J hJ D hD => ?_⟩
  obtain ⟨z, h9, e9, q9⟩ := A1.lifted
  obtain ⟨hE, eL, eE⟩ := Option.bind_eq_some_iff.mp e9
  have RS1 : RepS X.K m1 H1 (wipeA σa (own.map (·.2))) (wipe σ (own.map (·.2))) := (RS.mono E1).wipe _
  have hm1 : h1.length = m1.length := S1.len
  have E2 : Ext m1 H1 (m1 ++ [some D]) (upd H1 D (.lst [])) := Ext.push S1 hD
  refine ⟨fun i mm H => mm = xs.length - i ∧ ∃ m h, Ext (m1 ++ [some D]) (upd H1 D (.lst [])) m H ∧ Sim X.K T m h H ∧ lcO g ct ci1 vs1 g1 ct1 ce h1.length (wipeA σa (own.map (·.2))) (xs.drop i) h = some hE, ⟨_, rfl, m1 ++ [some D], h1 ++ [.lst []], Ext.refl _ _, S1.push hD .nil, by rw [List.drop_zero]; exact eL⟩, ?_⟩
  rintro i mm H2 ⟨rfl, m2, h2, E3, S2, e2⟩
  have hJ2 : ItOk X.K T (m1 ++ [some D]) (upd H1 D (.lst [])) xs J := hJ.mono E2
  by_cases hi : i < xs.length
  · refine .inr ⟨hJ2.go m2 h2 H2 i E3 S2 hi, fun H' => ∃ m h, Ext (m1 ++ [some D]) (upd H1 D (.lst [])) m H' ∧ Sim X.K T m h H' ∧ lcO g ct ci1 vs1 g1 ct1 ce h1.length (wipeA σa (own.map (·.2))) (xs.drop (i + 1)) h = some hE, fun H' hN => ⟨xs.length - (i + 1), by omega, rfl, hN⟩, fun x H3 y => ?_⟩
    obtain ⟨xa, m3, ex, E4, S3, rx⟩ := hJ2.yld m2 h2 H2 i x H3 E3 S2 hi y
    have hd : xs.drop i = xa :: xs.drop (i + 1) := by
      obtain ⟨hi', e'⟩ := List.getElem?_eq_some_iff.mp ex
      rw [List.drop_eq_getElem_cons hi', e']
    rw [hd] at e2
    unfold lcO at e2
    cases hgx : g xa h2 with
    | none => rw [hgx] at e2; cases e2
    | some ups =>
      simp only [hgx] at e2
      refine ⟨m3, h2, xa, ups, S3, rx, hgx, fun ws hw => ⟨?_, m3, h2, setAll (wipeA σa (own.map (·.2))) ups, S3, ?_, ?_⟩⟩
      · rw [wipe_setAll ws _ fun w hw' => hns _ (by
          have : w.1 ∈ ws.map (·.1) := List.mem_map.mpr ⟨w, hw', rfl⟩
          rw [ups_fst hw, hn _ _ _ hgx] at this
          exact this), wipe_wipe σ _ fun u hu => hu]
      · exact (((RS1.mono E2).mono E3).mono E4).setAll hw
      · cases ht : ct (setAll (wipeA σa (own.map (·.2))) ups) h2 with
        | none => simp only [ht] at e2; cases e2
        | some p5 =>
          obtain ⟨r5, h5⟩ := p5
          simp only [ht] at e2
          cases r5 with
          | exn _ _ => cases e2
          | ok bb =>
            refine ⟨_, _, rfl, fun m5 H5 E5 S5 b' rb => ?_⟩
            subst rb
            cases b' with
            | false =>
              rw [if_neg Bool.false_ne_true]
              exact ⟨m5, h5, (E3.trans E4).trans E5, S5, e2⟩
            | true =>
              rw [if_pos rfl]
              simp only at e2
              have RS2 := (((((RS1.mono E2).mono E3).mono E4).setAll hw).mono E5)
              generalize hs2 : setAll (wipeA σa (own.map (·.2))) ups = s2 at e2 RS2 ⊢
              refine ⟨m5, h5, s2, S5, RS2, ?_⟩
              cases hci : ci1 s2 h5 with
              | none => simp only [hci] at e2; cases e2
              | some p6 =>
                obtain ⟨r6, h6⟩ := p6
                simp only [hci] at e2
                cases r6 with
                | exn _ _ => cases e2
                | ok ys =>
                  refine ⟨_, _, rfl, fun m6 H6 E6 S6 J1 hJ1 => ?_⟩
                  simp only at e2
                  obtain ⟨hI, eI, eO⟩ := Option.bind_eq_some_iff.mp e2
                  have RS2 := RS2.mono E6
                  have EB : Ext (m1 ++ [some D]) (upd H1 D (.lst [])) m6 H6 := ((E3.trans E4).trans E5).trans E6
                  refine ⟨fun j mm H => mm = ys.length - j ∧ ∃ m h, Ext m6 H6 m H ∧ Sim X.K T m h H ∧ lcL g1 ct1 ce h1.length (wipeA s2 vs1) (ys.drop j) h = some hI, ⟨_, rfl, m6, h6, Ext.refl _ _, S6, by rw [List.drop_zero]; exact eI⟩, ?_⟩
                  rintro j mm G2 ⟨rfl, n2, g2, F3, T2, i2⟩
                  have RS2 := RS2.wipe vs1
                  have hK2 : ItOk X.K T m6 H6 ys J1 := hJ1
                  by_cases hj : j < ys.length
                  · refine .inr ⟨hK2.go n2 g2 G2 j F3 T2 hj, fun H' => ∃ m h, Ext m6 H6 m H' ∧ Sim X.K T m h H' ∧ lcL g1 ct1 ce h1.length (wipeA s2 vs1) (ys.drop (j + 1)) h = some hI, fun H' hN => ⟨ys.length - (j + 1), by omega, rfl, hN⟩, fun y G3 yy => ?_⟩
                    obtain ⟨ya, n3, ey, F4, T3, ry⟩ := hK2.yld n2 g2 G2 j y G3 F3 T2 hj yy
                    have id1 : ys.drop j = ya :: ys.drop (j + 1) := by
                      obtain ⟨hj', f'⟩ := List.getElem?_eq_some_iff.mp ey
                      rw [List.drop_eq_getElem_cons hj', f']
                    rw [id1] at i2
                    unfold lcL at i2
                    cases igx : g1 ya g2 with
                    | none => rw [igx] at i2; cases i2
                    | some vps =>
                      simp only [igx] at i2
                      refine ⟨n3, g2, ya, vps, T3, ry, igx, fun us iw => ⟨?_, n3, g2, setAll (wipeA s2 vs1) vps, T3, ?_, ?_⟩⟩
                      · rw [wipe_setAll us _ fun w iw' => hns1 _ (by
                          have : w.1 ∈ us.map (·.1) := List.mem_map.mpr ⟨w, iw', rfl⟩
                          rw [ups_fst iw, hn1 _ _ _ igx] at this
                          exact this), wipe_wipe _ _ fun u hu => hu]
                      · exact ((RS2.mono F3).mono F4).setAll iw
                      · cases it : ct1 (setAll (wipeA s2 vs1) vps) g2 with
                        | none => simp only [it] at i2; cases i2
                        | some q5 =>
                          obtain ⟨s5, g5⟩ := q5
                          simp only [it] at i2
                          cases s5 with
                          | exn _ _ => cases i2
                          | ok cc =>
                            refine ⟨_, _, rfl, fun n5 G5 F5 T5 c' rc => ?_⟩
                            subst rc
                            cases c' with
                            | false =>
                              rw [if_neg Bool.false_ne_true]
                              exact ⟨n5, g5, (F3.trans F4).trans F5, T5, i2⟩
                            | true =>
                              rw [if_pos rfl]
                              simp only at i2
                              refine ⟨n5, g5, setAll (wipeA s2 vs1) vps, T5, (((RS2.mono F3).mono F4).setAll iw).mono F5, ?_⟩
                              cases ie : ce (setAll (wipeA s2 vs1) vps) g5 with
                              | none => simp only [ie] at i2; cases i2
                              | some q6 =>
                                obtain ⟨s6, g6⟩ := q6
                                simp only [ie] at i2
                                cases s6 with
                                | exn _ _ => cases i2
                                | ok z6 =>
                                  refine ⟨_, _, rfl, fun n6 G6 F6 T6 w6 s6 => ?_⟩
                                  simp only at i2
                                  cases iL : g6[h1.length]? with
                                  | none => simp only [iL] at i2; cases i2
                                  | some d6 =>
                                    simp only [iL] at i2
                                    cases d6 with
                                    | lst adc =>
                                      simp only at i2
                                      by_cases iz : adc.length < sizeLine
                                      · rw [if_pos iz] at i2
                                        have FF : Ext (m1 ++ [some D]) (upd H1 D (.lst [])) n6 G6 := (EB.trans ((F3.trans F4).trans F5)).trans F6
                                        obtain ⟨u7, fx7, ok8⟩ := Paired.at_ T6.cell iL
                                        cases ok8 with
                                        | @lst b7 _ us7 eb s7 =>
                                          have eb7 : b7 = D := by
                                            have := FF.at' h1.length b7 (by rw [List.length_append, hm1]; simp) fx7
                                            rw [List.getElem?_append_right (by omega), hm1] at this
                                            simpa using this.symm
                                          subst eb7
                                          have k7 : adc.length = us7.length := Paired.len s7
                                          refine ⟨us7, eb, by omega, n6, g6.set h1.length (.lst (adc ++ [z6])), (((F3.trans F4).trans F5).trans F6).trans (Ext.store fx7 _ ⟨_, eb, (fun _ _ z => nomatch z), (fun _ z => nomatch z)⟩), T6.store fx7 (.lst upd_same (RepVs.mono (Ext.store fx7 _ ⟨_, eb, (fun _ _ z => nomatch z), (fun _ z => nomatch z)⟩) (Paired.app s7 (.cons s6 .nil)))), i2⟩
                                      · rw [if_neg iz] at i2; cases i2
                                    | _ => cases i2
                  · refine .inl ⟨hK2.stop n2 g2 G2 j F3 T2 (by omega), ?_⟩
                    rw [List.drop_of_length_le (by omega)] at i2
                    have i3 : g2 = hI := Option.some.inj i2
                    subst i3
                    exact ⟨n2, g2, EB.trans F3, T2, eO⟩
  · refine .inl ⟨hJ2.stop m2 h2 H2 i E3 S2 (by omega), ?_⟩
    rw [List.drop_of_length_le (by omega)] at e2
    have e3 : h2 = hE := Option.some.inj e2
    subst e3
    unfold lcEnd at eE
    by_cases hc : h2.length = h1.length + 1 ∧ (h2.take h1.length).all (Cell.below h1.length) = true
    · rw [if_pos hc] at eE
      cases hL : h2[h1.length]? with
      | none => simp only [hL] at eE; cases eE
      | some c6 =>
        simp only [hL] at eE
        cases c6 with
        | lst acc =>
          simp only at eE
          cases ha : allD acc with
          | none => rw [ha] at eE; cases eE
          | some ds =>
            rw [ha] at eE
            cases eE
            obtain ⟨x7, ex7, ok7⟩ := Paired.at_ S2.cell hL
            cases ok7 with
            | @lst a7 _ vs7 ea r7 =>
              have ea7 : a7 = D := by
                have := E3.at' h1.length a7 (by rw [List.length_append, hm1]; simp) ex7
                rw [List.getElem?_append_right (by omega), hm1] at this
                simpa using this.symm
              subst ea7
              have ln : h1.length ≤ m2.length := by rw [← S2.len]; omega
              have Ef : Ext m1 H1 (m2.take m1.length) H2 := (E2.trans E3).cut
              rw [← hm1] at Ef
              refine q9 _ H2 Ef (S2.cut ln hc.2) _ (.lst ⟨ea, fun z => ?_⟩ ((allD_rep r7 ha).sub take_sub))
              obtain ⟨l, el⟩ := List.mem_iff_getElem?.mp z
              have hl : l < h1.length := by
                rcases Nat.lt_or_ge l h1.length with q | q
                · exact q
                · rw [List.getElem?_eq_none (by rw [List.length_take]; omega)] at el; cases el
              rw [List.getElem?_take_of_lt hl] at el
              have := S2.inj l h1.length a7 el ex7
              omega
        | _ => cases eE
    · rw [if_neg hc] at eE; cases eE
/-- .. as a list that will change -/
theorem re_lc2 {scope : Scope} {own : List (Str × Nat)} (C : Cok X W k) (hi : RI X T W tg iter ci) (ok : BlkOk X.N X.env.scope scope own) (hns : ∀ i ∈ ns, i ∈ own.map (·.2)) (hns1 : ∀ i ∈ ns1, i ∈ vs1) (hv : ∀ i ∈ vs1, i ∈ own.map (·.2))
    (hg : ∀ (s : Shared) (H : Hp) (C : Addr) (cl : List (Str × Addr)) (fp : List Addr), RG (X.blk s H scope (compEnvC scope cl C X.env) fp) T tg ns g) (ht : ∀ (s : Shared) (H : Hp) (C : Addr) (cl : List (Str × Addr)) (fp : List Addr), RTs (X.blk s H scope (compEnvC scope cl C X.env) fp) T W0 ifs ct)
    (hi1 : ∀ (s : Shared) (H : Hp) (C : Addr) (cl : List (Str × Addr)) (fp : List Addr), RI (X.blk s H scope (compEnvC scope cl C X.env) fp) T W0 tg1 iter1 ci1)
    (hg1 : ∀ (s : Shared) (H : Hp) (C : Addr) (cl : List (Str × Addr)) (fp : List Addr), RG (X.blk s H scope (compEnvC scope cl C X.env) fp) T tg1 ns1 g1) (ht1 : ∀ (s : Shared) (H : Hp) (C : Addr) (cl : List (Str × Addr)) (fp : List Addr), RTs (X.blk s H scope (compEnvC scope cl C X.env) fp) T W0 ifs1 ct1)
    (he : ∀ (s : Shared) (H : Hp) (C : Addr) (cl : List (Str × Addr)) (fp : List Addr), RE (X.blk s H scope (compEnvC scope cl C X.env) fp) T W0 elt ce) (hs : ∀ x, foldedSetIterable iter X.env x = pure x := by intro _; rfl) (hs1 : ∀ env x, foldedSetIterable iter1 env x = pure x := by intro _ _; rfl) :
    RE X T W (.ListComp elt [⟨tg, iter, ifs, 0⟩, ⟨tg1, iter1, ifs1, 0⟩] scope pos) (cLc2 ci (own.map (·.2)) g ct ci1 vs1 g1 ct1 ce) :=
  ⟨⟨fun pins s σ H Q I h => (pe_lc2 C.calm C.nd hi.pi ok hv (fun s H C cl fp => (hg s H C cl fp).pg) (fun s H C cl fp => (ht s H C cl fp).pts) (fun s H C cl fp => (hi1 s H C cl fp).pi) (fun s H C cl fp => (hg1 s H C cl fp).pg) (fun s H C cl fp => (ht1 s H C cl fp).pts) (fun s H C cl fp => (he s H C cl fp).pe) hs hs1).run pins s σ H Q I (lc2_read hns (hg s H 0 [] []).ns hns1 (hg1 s H 0 [] []).ns h)⟩⟩
theorem rs_setLc2 {i : Nat} {y : Str} {py spos : Pos} {scope : Scope} {own : List (Str × Nat)} (C : Cok X W k) (hi : RI X T W tg iter ci) (ok : BlkOk X.N X.env.scope scope own) (hns : ∀ i ∈ ns, i ∈ own.map (·.2)) (hns1 : ∀ i ∈ ns1, i ∈ vs1) (hv : ∀ i ∈ vs1, i ∈ own.map (·.2))
    (hg : ∀ (s : Shared) (H : Hp) (C : Addr) (cl : List (Str × Addr)) (fp : List Addr), RG (X.blk s H scope (compEnvC scope cl C X.env) fp) T tg ns g) (ht : ∀ (s : Shared) (H : Hp) (C : Addr) (cl : List (Str × Addr)) (fp : List Addr), RTs (X.blk s H scope (compEnvC scope cl C X.env) fp) T W0 ifs ct)
    (hi1 : ∀ (s : Shared) (H : Hp) (C : Addr) (cl : List (Str × Addr)) (fp : List Addr), RI (X.blk s H scope (compEnvC scope cl C X.env) fp) T W0 tg1 iter1 ci1)
    (hg1 : ∀ (s : Shared) (H : Hp) (C : Addr) (cl : List (Str × Addr)) (fp : List Addr), RG (X.blk s H scope (compEnvC scope cl C X.env) fp) T tg1 ns1 g1) (ht1 : ∀ (s : Shared) (H : Hp) (C : Addr) (cl : List (Str × Addr)) (fp : List Addr), RTs (X.blk s H scope (compEnvC scope cl C X.env) fp) T W0 ifs1 ct1)
    (he : ∀ (s : Shared) (H : Hp) (C : Addr) (cl : List (Str × Addr)) (fp : List Addr), RE (X.blk s H scope (compEnvC scope cl C X.env) fp) T W0 elt ce)
    (hy : X.N[i]? = some y := by rfl) (hyl : X.env.scope.names.lookup y = some .local := by rfl)
    (hsw : swapsWith (.ListComp elt [⟨tg, iter, ifs, 0⟩, ⟨tg1, iter1, ifs1, 0⟩] scope pos) (some (.Name y py)) spos.line X.env = pure true := by exact sw_true rfl rfl rfl (by decide +kernel)) (hs : ∀ x, foldedSetIterable iter X.env x = pure x := by intro _; rfl) (hs1 : ∀ env x, foldedSetIterable iter1 env x = pure x := by intro _ _; rfl) :
    RS X T W (.Assign [.Name y py] (.ListComp elt [⟨tg, iter, ifs, 0⟩, ⟨tg1, iter1, ifs1, 0⟩] scope pos) spos) (sAsg (gN i) (cLc2 ci (own.map (·.2)) g ct ci1 vs1 g1 ct1 ce)) :=
  ⟨⟨fun pins s σ H D I h => (ps_setLc2 C.calm C.nd hy hyl hsw hi.pi ok hv (fun s H C cl fp => (hg s H C cl fp).pg) (fun s H C cl fp => (ht s H C cl fp).pts) (fun s H C cl fp => (hi1 s H C cl fp).pi) (fun s H C cl fp => (hg1 s H C cl fp).pg) (fun s H C cl fp => (ht1 s H C cl fp).pts) (fun s H C cl fp => (he s H C cl fp).pe) hs hs1).run pins s σ H D I (by
    refine lc2_read hns (hg s H 0 [] []).ns hns1 (hg1 s H 0 [] []).ns (by_tE h fun m h1 H1 σa x v S RS r A => ?_)
    obtain ⟨f, h', e, q⟩ := A
    cases e
    exact q m H1 _ (Ext.refl _ _) S (RS.set i r))⟩⟩
end
end MV
/-! Comprehensions of two clauses, whatever they make. -/
namespace MV
open PySem PySem.Spec PyProof.Rows L2
/-- the tests of a clause -/
abbrev ifsOf (ifs : List Expr) (env : Env) : Sem Bool := forIn ifs true fun c r =>
  if r = true then do
    let ok ← isTrue c env (eval c env)
    pure (ForInStep.yield ok)
  else pure (ForInStep.yield r)
/-- two clauses; what is made goes into the object at D -/
structure Cp2 (e t0 i0 t1 i1 : Expr) (ifs0 ifs1 : List Expr) (put : Addr → Env → Sem Unit) : Prop where
  cl : clausesOf e = [⟨t0, i0, ifs0, 0⟩, ⟨t1, i1, ifs1, 0⟩]
  q : ∀ d it acc env, (Code.compLoop e d it acc env).quiet = true
  au : ∀ (A : Around) d it acc env, A.under (Code.compLoop e d it acc env) = A
  as : ∀ (A : Around) d it acc env, A.under (Code.compStart e d it acc env) = A
  dl : ∀ prog w d it acc env, (model prog w).den (.compLoop e d it acc env) = ((compTurn e d it acc env).onRaise fun x => do
    noteFrame x env
    theTreesLotGoes x)
  ds : ∀ prog w d it acc env, ∃ p, (model prog w).den (.compStart e d it acc env) = ((compStart e d it acc env).onRaise fun x => do
    noteFrame x env
    standAt p)
  out : ∀ (it : Value) (D : Addr) (env : Env), compTurn e 0 it (.ref D) env = (do
    standAt i0.pos
    let r ← pyNext it
    match r with
    | none => pure (Fin.done Flow.next)
    | some v => do
      letOwnedTupleGo t0 it v
      assign t0 env v
      let ok ← ifsOf ifs0 env
      if ok = true then do
        let x ← eval i1 env
        standAt i1.pos
        let x ← foldedSetIterable i1 env x
        let it1 ← holding [x] (pyIter x)
        let _ ← runOwn (.compStart e 1 it1 (.ref D) env) env
        again (.compLoop e 0 it (.ref D) env)
      else again (.compLoop e 0 it (.ref D) env))
  inn : ∀ (it : Value) (D : Addr) (env : Env), compTurn e 1 it (.ref D) env = (do
    standAt i1.pos
    let r ← pyNext it
    match r with
    | none => pure (Fin.done Flow.next)
    | some v => do
      letOwnedTupleGo t1 it v
      assign t1 env v
      let ok ← ifsOf ifs1 env
      if ok = true then do
        put D env
        again (.compLoop e 1 it (.ref D) env)
      else again (.compLoop e 1 it (.ref D) env))
def putDict (kx vx : Expr) (D : Addr) (env : Env) : Sem Unit := do
  let kv ← eval kx env
  let vv ← holding [kv] (eval vx env)
  standAt { line := kx.pos.line, col := kx.pos.col, endLine := vx.pos.endLine, endCol := vx.pos.endCol }
  holding [kv, vv] (dictSet D kv vv)
theorem cp2_dict (kx vx t0 i0 t1 i1 : Expr) (ifs0 ifs1 : List Expr) (scope : Scope) (pos : Pos) : Cp2 (.DictComp kx vx [⟨t0, i0, ifs0, 0⟩, ⟨t1, i1, ifs1, 0⟩] scope pos) t0 i0 t1 i1 ifs0 ifs1 (putDict kx vx) :=
  ⟨rfl, fun _ _ _ _ => rfl, fun _ _ _ _ _ => rfl, fun _ _ _ _ _ => rfl, fun _ _ _ _ _ _ => rfl, fun _ _ _ _ _ _ => ⟨_, rfl⟩, fun _ _ _ => rfl, fun _ _ _ => rfl⟩
def putSet (x : Expr) (D : Addr) (env : Env) : Sem Unit := do
  let v ← eval x env
  standAt x.pos
  let _ ← call (.builtin "set.add") [.ref D, v]
  pure ()
theorem cp2_set (x t0 i0 t1 i1 : Expr) (ifs0 ifs1 : List Expr) (scope : Scope) (pos : Pos) : Cp2 (.SetComp x [⟨t0, i0, ifs0, 0⟩, ⟨t1, i1, ifs1, 0⟩] scope pos) t0 i0 t1 i1 ifs0 ifs1 (putSet x) :=
  ⟨rfl, fun _ _ _ _ => rfl, fun _ _ _ _ _ => rfl, fun _ _ _ _ _ => rfl, fun _ _ _ _ _ _ => rfl, fun _ _ _ _ _ _ => ⟨_, rfl⟩, fun _ _ _ => rfl, fun _ _ _ => rfl⟩
section
variable {prog : Program} {w : World} {A : Around} {R : Result → Shared → Prop} {s : Shared} {e t0 i0 t1 i1 : Expr} {ifs0 ifs1 : List Expr} {put : Addr → Env → Sem Unit} {it : Value} {D : Addr} {env : Env}
abbrev NoE : Value → Shared → Prop := fun _ _ => False
theorem cp2_in (C : Cp2 e t0 i0 t1 i1 ifs0 ifs1 put) (I : Nat → Shared → Prop)
    (turn : ∀ n s, I n s → wpAny (model prog w) A (pyNext it) (fun r s1 => (r = none ∧ R (.ok .next) s1) ∨ ∃ v, r = some v ∧
      wpAny (model prog w) A (letOwnedTupleGo t1 it v) (fun _ s2 => wpAny (model prog w) A (assign t1 env v) (fun _ s3 => wpAny (model prog w) A (ifsOf ifs1 env) (fun ok s4 =>
        if ok = true then wpAny (model prog w) A (put D env) (fun _ s5 => ∃ m, m < n ∧ I m s5) NoE s4 else ∃ m, m < n ∧ I m s4) NoE s3) NoE s2) NoE s1) NoE s)
    (n : Nat) (h : I n s) : codeAny (model prog w) A (.compLoop e 1 it (.ref D) env) R s := by
  refine codeAny_loop (C.q _ _ _ _) I (fun n s hI => ?_) n h
  rw [C.dl, C.au]
  refine wpAny_noted ?_
  rw [C.inn]
  refine wpAny_bind (wpAny_standAt (wpAny_bind (wpAny_mono (turn n s hI) (fun r s1 h1 => ?_) fun _ _ z => z.elim)))
  obtain ⟨rfl, h1⟩ | ⟨v, rfl, h1⟩ := h1
  · exact wpAny_pure h1
  · refine wpAny_bind (wpAny_mono h1 (fun _ s2 h2 => ?_) fun _ _ z => z.elim)
    refine wpAny_bind (wpAny_mono h2 (fun _ s3 h3 => ?_) fun _ _ z => z.elim)
    refine wpAny_bind (wpAny_mono h3 (fun ok s4 h4 => ?_) fun _ _ z => z.elim)
    cases ok with
    | true =>
      rw [if_pos rfl] at h4 ⊢
      exact wpAny_bind (wpAny_mono h4 (fun _ s5 h5 => wpAny_pure ⟨rfl, h5⟩) fun _ _ z => z.elim)
    | false =>
      rw [if_neg (fun z => nomatch z)] at h4 ⊢
      exact wpAny_pure ⟨rfl, h4⟩
theorem cp2_start0 (C : Cp2 e t0 i0 t1 i1 ifs0 ifs1 put) (h0 : codeAny (model prog w) A (.compLoop e 0 it (.ref D) env) R s)
    (h : wpAny (model prog w) A (pyIter it) (fun it' s' => codeAny (model prog w) A (.compLoop e 0 it' (.ref D) env) R s') NoE s) : codeAny (model prog w) A (.compStart e 0 it (.ref D) env) R s := by
  refine codeAny_of_tree ?_
  obtain ⟨p, ep⟩ := C.ds prog w 0 it (.ref D) env
  rw [ep, C.as]
  refine wpAny_notedAt ?_
  unfold compStart
  rw [C.cl]
  refine (id (wpAny_bind (wpAny_askSetting (wpAny_ite ?_))))
  split
  · exact wpAny_pure ⟨C.q _ _ _ _, h0⟩
  · exact wpAny_bind (wpAny_rule (wpAny_bind (wpAny_standAt (wpAny_bind (wpAny_mono h (fun it' s' h' => wpAny_pure ⟨C.q _ _ _ _, h'⟩) fun _ _ z => z.elim)))))
theorem cp2_start (C : Cp2 e t0 i0 t1 i1 ifs0 ifs1 put) (h0 : codeAny (model prog w) A (.compLoop e 1 it (.ref D) env) R s)
    (h : wpAny (model prog w) A (pyIter it) (fun it' s' => codeAny (model prog w) A (.compLoop e 1 it' (.ref D) env) R s') NoE s) : codeAny (model prog w) A (.compStart e 1 it (.ref D) env) R s := by
  refine codeAny_of_tree ?_
  obtain ⟨p, ep⟩ := C.ds prog w 1 it (.ref D) env
  rw [ep, C.as]
  refine wpAny_notedAt ?_
  unfold compStart
  rw [C.cl]
  refine (id (wpAny_bind (wpAny_askSetting (wpAny_ite ?_))))
  split
  · exact wpAny_pure ⟨C.q _ _ _ _, h0⟩
  · exact wpAny_bind (wpAny_rule (wpAny_bind (wpAny_standAt (wpAny_bind (wpAny_mono h (fun it' s' h' => wpAny_pure ⟨C.q _ _ _ _, h'⟩) fun _ _ z => z.elim)))))
/-- the run of one clause's walk, all done -/
def OkR (P : Shared → Prop) : Result → Shared → Prop
  | .ok _, s => P s
  | .error _, _ => False
theorem cp2_out (C : Cp2 e t0 i0 t1 i1 ifs0 ifs1 put) (hs1 : ∀ x, foldedSetIterable i1 env x = pure x) (I : Nat → Shared → Prop)
    (turn : ∀ n s, I n s → wpAny (model prog w) A (pyNext it) (fun r s1 => (r = none ∧ R (.ok .next) s1) ∨ ∃ v, r = some v ∧
      wpAny (model prog w) A (letOwnedTupleGo t0 it v) (fun _ s2 => wpAny (model prog w) A (assign t0 env v) (fun _ s3 => wpAny (model prog w) A (ifsOf ifs0 env) (fun ok s4 =>
        if ok = true then wpAny (model prog w) A (eval i1 env) (fun x s5 => wpAny (model prog w) A (pyIter x) (fun it1 s6 => codeAny (model prog w) A (.compStart e 1 it1 (.ref D) env) (OkR fun s' => ∃ m, m < n ∧ I m s') s6) NoE s5) NoE s4
        else ∃ m, m < n ∧ I m s4) NoE s3) NoE s2) NoE s1) NoE s)
    (n : Nat) (h : I n s) : codeAny (model prog w) A (.compLoop e 0 it (.ref D) env) R s := by
  refine codeAny_loop (C.q _ _ _ _) I (fun n s hI => ?_) n h
  rw [C.dl, C.au]
  refine wpAny_noted ?_
  rw [C.out]
  refine wpAny_bind (wpAny_standAt (wpAny_bind (wpAny_mono (turn n s hI) (fun r s1 h1 => ?_) fun _ _ z => z.elim)))
  obtain ⟨rfl, h1⟩ | ⟨v, rfl, h1⟩ := h1
  · exact wpAny_pure h1
  · refine wpAny_bind (wpAny_mono h1 (fun _ s2 h2 => ?_) fun _ _ z => z.elim)
    refine wpAny_bind (wpAny_mono h2 (fun _ s3 h3 => ?_) fun _ _ z => z.elim)
    refine wpAny_bind (wpAny_mono h3 (fun ok s4 h4 => ?_) fun _ _ z => z.elim)
    cases ok with
    | true =>
      rw [if_pos rfl] at h4 ⊢
      refine wpAny_bind (wpAny_mono h4 (fun x s5 h5 => ?_) fun _ _ z => z.elim)
      refine wpAny_bind (wpAny_standAt (wpAny_bind (wpAny_of_eq (hs1 x) (wpAny_bind (wpAny_holding (wpAny_mono h5 (fun it1 s6 h6 => ?_) fun _ _ z => z.elim))))))
      refine wpAny_bind (wpAny_runOwn (h := none) ?_ (by intro z; cases z))
      rw [Around.mark_none]
      refine codeAny_mono h6 fun r s7 h7 => ?_
      cases r with
      | ok f => exact wpAny_pure ⟨rfl, h7⟩
      | error x => exact h7.elim
    | false =>
      rw [if_neg (fun z => nomatch z)] at h4 ⊢
      exact wpAny_pure ⟨rfl, h4⟩
end
/-- what is wanted of a comprehension of two clauses that puts into an object u0 at first -/
def tCp2 (u0 : Addr → HO) (wi : TI) (g : TG) (tt : TT) (wi1 : TI) (g1 : TG) (tt1 : TT) (tp : Addr → L2.St → Hp → (Hp → Prop) → Prop) (vs vs1 : List Nat) : TE := fun σ H Q =>
  wi σ H fun J H1 => ∀ D, H1 D = none → ∃ W : Nat → Nat → Hp → Prop, (∃ m, W 0 m (upd H1 D (u0 D))) ∧ ∀ i m H, W i m H →
    (J.stop i H ∧ Q (.ref D) H) ∨ (J.go i H ∧ ∃ Nx : Hp → Prop, (∀ H', Nx H' → ∃ m', m' < m ∧ W (i + 1) m' H') ∧ ∀ x H', J.yld i H x H' →
      g x (wipe σ vs) H' fun σ2 H2 => wipe σ2 vs = wipe σ vs ∧ tt σ2 H2 fun b H3 => if b = true then
        wi1 σ2 H3 fun J1 H4 => ∃ W1 : Nat → Nat → Hp → Prop, (∃ k, W1 0 k H4) ∧ ∀ j k H, W1 j k H →
          (J1.stop j H ∧ Nx H) ∨ (J1.go j H ∧ ∃ Nx1 : Hp → Prop, (∀ H', Nx1 H' → ∃ k', k' < k ∧ W1 (j + 1) k' H') ∧ ∀ x H', J1.yld j H x H' →
            g1 x (wipe σ2 vs1) H' fun σ3 H5 => wipe σ3 vs1 = wipe σ2 vs1 ∧ tt1 σ3 H5 fun b H6 => if b = true then tp D σ3 H6 Nx1 else Nx1 H6)
        else Nx H3)
/-- what is put -/
def PP (X : Cx) (put : Addr → Env → Sem Unit) (tp : Addr → L2.St → Hp → (Hp → Prop) → Prop) : Prop :=
  ∀ (D : Addr) (pins : List (Addr × Obj)) (s : Shared) (σ : L2.St) (H : Hp) (N : Hp → Prop), L2.Inv X pins σ H s → tp D σ H N →
    wpAny (model X.prog X.w) X.A (put D X.env) (fun _ s' => ∃ H', L2.Inv X pins σ H' s' ∧ N H') X.xe s
section
variable {X : Cx} {e t0 i0 t1 i1 : Expr} {ifs0 ifs1 : List Expr} {put : Addr → Env → Sem Unit} {scope : Scope} {own : List (Str × Nat)} {vs1 : List Nat} {wi wi1 : TI} {g g1 : TG} {tt tt1 : TT} {tp : Addr → L2.St → Hp → (Hp → Prop) → Prop} {u0 : Addr → HO} {Ty : String} {data : Data} {mk : Sem Value} {pos : Pos}
theorem cp2_core {use : Option (Value → Sem Unit)} {Qf : Value → Shared → Prop} (C : Cp2 e t0 i0 t1 i1 ifs0 ifs1 put) (hc : X.calm = true) (hN : X.N.Nodup) (hi : PI X t0 i0 wi) (ok : BlkOk X.N X.env.scope scope own) (hv : ∀ i ∈ vs1, i ∈ own.map (·.2))
    (hg : ∀ s H C cl fp, PG (X.blk s H scope (compEnvC scope cl C X.env) fp) t0 g) (ht : ∀ s H C cl fp, PTs (X.blk s H scope (compEnvC scope cl C X.env) fp) ifs0 tt)
    (hi1 : ∀ s H C cl fp, PI (X.blk s H scope (compEnvC scope cl C X.env) fp) t1 i1 wi1)
    (hg1 : ∀ s H C cl fp, PG (X.blk s H scope (compEnvC scope cl C X.env) fp) t1 g1) (ht1 : ∀ s H C cl fp, PTs (X.blk s H scope (compEnvC scope cl C X.env) fp) ifs1 tt1)
    (hp : ∀ s H C cl fp, PP (X.blk s H scope (compEnvC scope cl C X.env) fp) put tp)
    (hs : ∀ x, foldedSetIterable i0 X.env x = pure x) (hs1 : ∀ env x, foldedSetIterable i1 env x = pure x)
    (hd : ∀ {Q : Value → Shared → Prop} {s : Shared}, Q (.ref s.heap.objs.size) { heap := s.heap.push { cls := .type Ty, data := data }, gens := s.gens, drawn := s.drawn, toks := s.toks, os := s.os } → wpAny (model X.prog X.w) X.A mk Q X.xe s) (hob : ∀ (H : Hp) (h : Heap), sysModules < h.objs.size → ObjOk X.prog X.w H (h.push { cls := .type Ty, data := data }) h.objs.size (u0 h.objs.size))
    (pins : List (Addr × Obj)) (s : Shared) (σ : L2.St) (H : Hp) (Q : VK) (I : L2.Inv X pins σ H s) (h : tCp2 u0 wi g tt wi1 g1 tt1 tp (own.map (·.2)) vs1 σ H Q)
    (hRR : ∀ D Cc s' m H', L2.Inv X pins σ H' s' → Q (.ref D) H' → s'.heap.Ns Cc m → FpOk X pins H' Cc → compPost (model X.prog X.w) X.A X.xe use Qf (.ref D) Cc (.ok .next) s') :
    wpAny (model X.prog X.w) X.A (comprehension e scope X.env pos mk false (eval i0 X.env) use) Qf X.xe s := by
  have hfree : ∀ y ∈ scope.names, y.2 = NameKind.free → ∃ c, List.lookup y.1 X.env.cells = some c := fun y hy e => (ok.free y hy e).elim (fun k => I.ok.has y.1 (.inl k)) fun k => I.ok.has y.1 (.inr k)
  refine wpAny_comprehension_free C.cl hs (closure_ok hfree) ok.kind (fun y hy e => (ok.uniq y hy).trans (by rw [e])) ?_
  refine thn (hi.run pins s σ H _ I h) fun xv s1 hx => thn hx fun itv s2 h2 => ?_
  obtain ⟨it, fp, tn, J, H2, rfl, I2, T, st2, f2, q⟩ := h2
  refine hd (newEnv_comp ?_)
  have hDn : H2 s2.heap.objs.size = none := HOk.fresh I2.hok (Nat.le_refl _)
  obtain ⟨W, ⟨m0, w0⟩, turn⟩ := q s2.heap.objs.size hDn
  generalize hDe : s2.heap.objs.size = D at *
  have I3 : L2.Inv X pins σ (upd H2 D (u0 D)) { heap := s2.heap.push { cls := .type Ty, data := data }, gens := s2.gens, drawn := s2.drawn, toks := s2.toks, os := s2.os } :=
    I2.laid (fun b o e => Heap.get?_push_of_some _ e) (Nat.le_of_eq hDe) (hDe ▸ hob _ s2.heap I2.big)
  have sz : ∀ b ∈ fp, b < s2.heap.objs.size := fun b hb => by
    obtain ⟨o, e, _⟩ := T.obj 0 s2.heap st2 b hb
    exact Heap.lt_size e
  have h3 : ∀ b o, s2.heap.get? b = some o → (s2.heap.push { cls := .type Ty, data := data }).get? b = some o := fun b o e => Heap.get?_push_of_some _ e
  have hsz : (s2.heap.push { cls := .type Ty, data := data }).objs.size = s2.heap.objs.size + 1 := Heap.size_push _ _
  generalize hs3 : ({ heap := s2.heap.push { cls := .type Ty, data := data }, gens := s2.gens, drawn := s2.drawn, toks := s2.toks, os := s2.os } : Shared) = s3 at *
  have hh3 : s3.heap = s2.heap.push { cls := .type Ty, data := data } := by rw [← hs3]
  have f3 : ∀ b ∈ fp, FpOk X pins (upd H2 D (u0 D)) b ∧ b < s3.heap.objs.size := fun b hb => by
    have hlt := sz b hb
    refine ⟨⟨?_, (f2 b hb).2⟩, by rw [hh3, hsz]; exact Nat.lt_succ_of_lt hlt⟩
    rw [upd_ne (by rw [← hDe]; exact Nat.ne_of_lt hlt)]
    exact (f2 b hb).1
  have st3 : tn 0 s3.heap := T.keep 0 s2.heap s3.heap st2 fun b _ o e => by rw [hh3]; exact h3 b o e
  have I4 := block_start I3 ok hN f3
  generalize hC : s3.heap.objs.size = Cc at *
  generalize hcl : cellsFrom (Cc + 1) scope.names (cloFrom X.env.cells scope.names []) = cl at *
  have pg := hg s3 (upd H2 D (u0 D)) Cc cl fp
  have pt := ht s3 (upd H2 D (u0 D)) Cc cl fp
  have pi1 := hi1 s3 (upd H2 D (u0 D)) Cc cl fp
  have pg1 := hg1 s3 (upd H2 D (u0 D)) Cc cl fp
  have pt1 := ht1 s3 (upd H2 D (u0 D)) Cc cl fp
  have pp := hp s3 (upd H2 D (u0 D)) Cc cl fp
  have hs1' := hs1 (compEnvC scope cl Cc X.env)
  have nfp : ∀ b ∈ fp, upd H2 D (u0 D) b = none := fun b hb => (f3 b hb).1.1
  generalize hXb : X.blk s3 (upd H2 D (u0 D)) scope (compEnvC scope cl Cc X.env) fp = Xb at *
  generalize hσ : wipe σ (own.map (·.2)) = σw at *
  generalize hs4 : ({ heap := pushCells (s3.heap.push { cls := .type "dict", data := Data.dict #[] }) scope.names, gens := s3.gens, drawn := s3.drawn, toks := s3.toks, os := s3.os } : Shared) = s4 at *
  have st4 : tn 0 s4.heap := T.keep 0 s3.heap s4.heap st3 fun b x o e => by
    rw [← hs4]
    exact pushCells_keeps scope.names _ b o (Heap.get?_push_of_some _ e)
  have eprog : Xb.prog = X.prog := by rw [← hXb]
  have ew : Xb.w = X.w := by rw [← hXb]
  have eK : Xb.K = X.K := by rw [← hXb]
  have ecalm : Xb.calm = true := by rw [← hXb]; exact hc
  have eA : Xb.A = X.A := by rw [← hXb]
  have exe : Xb.xe = NoE := by rw [← hXb]
  have eex : Xb.ex = fp := by rw [← hXb]
  have epn : Xb.pn = [] := by rw [← hXb]
  have eenv : Xb.env = compEnvC scope cl Cc X.env := by rw [← hXb]
  have eloc : Xb.env.locals = Cc := by rw [eenv]; rfl
  have stat : ∀ {σ' H' s'}, L2.Inv Xb [] σ' H' s' → (∀ b ∈ fp, H' b = none) → ∀ b ∈ fp, FpOk Xb [] H' b := fun {σ' H' s'} I' hn b hb => by
    have hx := I'.ok.exf b (eex ▸ hb)
    refine ⟨hn b hb, hx.1, I'.ok.exfs b (eex ▸ hb), .inl (eex ▸ hb), hx.2, fun p hp => ?_⟩
    rw [epn] at hp
    cases hp
  have rg := pg.run
  rw [eprog, ew, eA, exe, eenv] at rg
  have rt := pt.run
  rw [eprog, ew, eA, exe, eenv] at rt
  have ri := pi1.run
  rw [eprog, ew, eA, exe, eenv] at ri
  have rg1 := pg1.run
  rw [eprog, ew, eA, exe, eenv] at rg1
  have rt1 := pt1.run
  rw [eprog, ew, eA, exe, eenv] at rt1
  have rp := pp
  unfold PP at rp
  rw [eprog, ew, eA, exe, eenv] at rp
  clear pg pt pi1 pg1 pt1 pp hg ht hi1 hg1 ht1 hp hob hi
  have hcall : ∀ {H5 s6}, L2.Inv Xb [] σw H5 s6 → L2.Inv X pins σ H5 s6 := by
    rw [← hXb]
    exact fun {H5 s6} I6 => Inv.call' I3 I6.os I6.base I6.hok I6.bare fun b hb => ⟨(f3 b hb).1.2.2.2.1, (f3 b hb).1.2.1, (f3 b hb).1.2.2.2.2.1, (f3 b hb).1.2.2.2.2.2⟩
  have loop : codeAny (model X.prog X.w) X.A (.compLoop e 0 (.ref it) (.ref D) (compEnvC scope cl Cc X.env)) (compPost (model X.prog X.w) X.A X.xe use Qf (.ref D) Cc) s4 := by
    refine cp2_out C hs1' (fun n s' => ∃ i H', L2.Inv Xb [] σw H' s' ∧ tn i s'.heap ∧ (∀ b ∈ fp, H' b = none) ∧ W i n H') (fun n s5 => ?_) m0 ⟨0, _, I4, st4, nfp, w0⟩
    rintro ⟨i, H5, I5, st5, n5, w5⟩
    obtain ⟨stop, qq⟩ | ⟨go, Nx, hNx, step⟩ := turn i n H5 w5
    · have td := T.done Xb eprog ew eK ecalm i [] s5 σw H5 NoE I5 (stat I5 n5) st5 stop
      rw [eA] at td
      refine thn td fun r s6 ⟨hr, I6⟩ => .inl ⟨hr, ?_⟩
      have nC : H5 Cc = none := eloc ▸ I6.free
      obtain ⟨m, hn, _⟩ := I6.loc
      rw [eloc] at hn
      have fpC : FpOk X pins H5 Cc := Inv.fpOk I3 (Nat.le_of_eq hC) nC
      exact hRR D Cc s6 m H5 (hcall I6) qq hn fpC
    · have ti := T.item Xb eprog ew eK ecalm i [] s5 σw H5 NoE I5 (stat I5 n5) st5 go
      rw [eA] at ti
      refine thn ti fun r s6 ⟨u, hr, h6⟩ => .inr ⟨u, hr, thn h6 fun _ s7 ⟨x, H7, I7, rel, yl, st7, n7⟩ => ?_⟩
      have I7p := I7.pinned (stat I7 n7) (T.obj (i + 1) s7.heap st7)
      -- what stays while the pins hold
      have back : ∀ {σ' H' s'}, L2.Inv Xb ([] ++ pinsAt fp s7.heap) σ' H' s' → (∀ b ∈ fp, H' b = none) ∧ tn (i + 1) s'.heap := fun {σ' H' s'} I' => by
        refine ⟨fun b hb => ?_, T.keep (i + 1) s7.heap _ st7 fun b hb o eo => (I'.pin (b, o) (List.mem_append_right _ (mem_pinsAt hb eo))).1⟩
        obtain ⟨o, eo, _⟩ := T.obj (i + 1) s7.heap st7 b hb
        exact (I'.pin (b, o) (List.mem_append_right _ (mem_pinsAt hb eo))).2.1
      generalize hP : [] ++ pinsAt fp s7.heap = P at *
      have unp : ∀ {σ' H' s'}, L2.Inv Xb P σ' H' s' → L2.Inv Xb [] σ' H' s' := fun {σ' H' s'} I' => Inv.unpinned (hP ▸ I')
      have close : ∀ {σ' H' s'}, L2.Inv Xb P σ' H' s' → (∀ (l : Nat) (v : V), σw[l]? = some (some v) → σ'[l]? = some (some v)) → Nx H' → ∃ m, m < n ∧ ∃ i H', L2.Inv Xb [] σw H' s' ∧ tn i s'.heap ∧ (∀ b ∈ fp, H' b = none) ∧ W i m H' := fun {σ' H' s'} I' hσ' hx => by
        obtain ⟨m', hm, hw⟩ := hNx _ hx
        exact ⟨m', hm, i + 1, H', (unp I').weak (I5.len.trans I'.len.symm) hσ', (back I').2, (back I').1, hw⟩
      refine thn (rg P s7 σw H7 x u _ I7p rel (step x H7 yl)) fun _ s8 ⟨σ8, H8, I8, hw8, ht8⟩ => ?_
      refine thn (rt P s8 σ8 H8 _ I8 ht8) fun b s9 ⟨H9, I9, q9⟩ => ?_
      have hσ8 : ∀ (l : Nat) (v : V), σw[l]? = some (some v) → σ8[l]? = some (some v) ∧ l ∉ own.map (·.2) := fun l v hl => by
        rw [← hw8] at hl
        exact wipe_some hl
      cases b with
      | false =>
        rw [if_neg (fun z => nomatch z)] at q9 ⊢
        exact close I9 (fun l v hl => (hσ8 l v hl).1) q9
      | true =>
        rw [if_pos rfl] at q9 ⊢
        refine thn (ri P s9 σ8 H9 _ I9 q9) fun v s10 h10 => thn h10 fun itv s11 h11 => ?_
        obtain ⟨it1, fp1, tn1, J1, H11, rfl, I11, T1, st11, f11, W1, ⟨k0, w11⟩, turn1⟩ := h11
        rw [eprog, ew, eK] at T1
        have stat1 : ∀ {H' : Hp}, (∀ b ∈ fp1, H' b = none) → ∀ b ∈ fp1, FpOk Xb P H' b := fun {H'} n b hb => ⟨n b hb, (f11 b hb).2⟩
        have lp : codeAny (model X.prog X.w) X.A (.compLoop e 1 (.ref it1) (.ref D) (compEnvC scope cl Cc X.env)) (OkR fun s' => ∃ m, m < n ∧ ∃ i H', L2.Inv Xb [] σw H' s' ∧ tn i s'.heap ∧ (∀ b ∈ fp, H' b = none) ∧ W i m H') s11 := by
          refine cp2_in C (fun k s' => ∃ j H', L2.Inv Xb P (wipe σ8 vs1) H' s' ∧ tn1 j s'.heap ∧ (∀ b ∈ fp1, H' b = none) ∧ W1 j k H') (fun k s12 => ?_) k0 ⟨0, H11, I11.weak (wipe_length _ _) (fun l v hl => (wipe_some hl).1), st11, fun b hb => (f11 b hb).1, w11⟩
          rintro ⟨j, H12, I12, st12, n12, w12⟩
          obtain ⟨stop1, nx⟩ | ⟨go1, Nx1, hNx1, step1⟩ := turn1 j k H12 w12
          · have td := T1.done Xb eprog ew eK ecalm j P s12 _ H12 NoE I12 (stat1 n12) st12 stop1
            rw [eA] at td
            refine thn td fun r s13 ⟨hr, I13⟩ => .inl ⟨hr, close I13 (fun l v hl => ?_) nx⟩
            rw [wipe_out fun hm => (hσ8 l v hl).2 (hv l hm)]
            exact (hσ8 l v hl).1
          · have ti1 := T1.item Xb eprog ew eK ecalm j P s12 _ H12 NoE I12 (stat1 n12) st12 go1
            rw [eA] at ti1
            refine thn ti1 fun r s13 ⟨u1, hr1, h13⟩ => .inr ⟨u1, hr1, thn h13 fun _ s14 ⟨x1, H14, I14, rel1, yl1, st14, n14⟩ => ?_⟩
            have I14p := I14.pinned (stat1 n14) (T1.obj (j + 1) s14.heap st14)
            have close1 : ∀ {σ' H' s'}, L2.Inv Xb (P ++ pinsAt fp1 s14.heap) σ' H' s' → wipe σ' vs1 = wipe σ8 vs1 → Nx1 H' → ∃ k', k' < k ∧ ∃ j H', L2.Inv Xb P (wipe σ8 vs1) H' s' ∧ tn1 j s'.heap ∧ (∀ b ∈ fp1, H' b = none) ∧ W1 j k' H' := fun {σ' H' s'} I' hσ' hx => by
              obtain ⟨k', hk, hw⟩ := hNx1 _ hx
              refine ⟨k', hk, j + 1, H', (Inv.unpinned I').weak (I12.len.trans I'.len.symm) (fun l v hl => ?_), T1.keep (j + 1) s14.heap _ st14 fun b hb o eo => (I'.pin (b, o) ?_).1, fun b hb => ?_, hw⟩
              · rw [← hσ'] at hl
                exact (wipe_some hl).1
              · exact List.mem_append_right _ (List.mem_append_right _ (mem_pinsAt hb eo))
              · obtain ⟨o, eo, _⟩ := T1.obj (j + 1) s14.heap st14 b hb
                exact (I'.pin (b, o) (List.mem_append_right _ (List.mem_append_right _ (mem_pinsAt hb eo)))).2.1
            refine thn (rg1 _ s14 _ H14 x1 u1 _ I14p rel1 (step1 x1 H14 yl1)) fun _ s15 ⟨σ15, H15, I15, hw15, ht15⟩ => ?_
            refine thn (rt1 _ s15 σ15 H15 _ I15 ht15) fun b1 s16 ⟨H16, I16, q16⟩ => ?_
            cases b1 with
            | false =>
              rw [if_neg (fun z => nomatch z)] at q16 ⊢
              exact close1 I16 hw15 q16
            | true =>
              rw [if_pos rfl] at q16 ⊢
              exact thn (rp D _ s16 σ15 H16 Nx1 I16 q16) fun _ s17 ⟨H17, I17, nx1⟩ => close1 I17 hw15 nx1
        exact cp2_start C lp (T1.self _ 0 s11 _ _ st11 lp)
  have e5 := cp2_start0 C loop (T.self X.A 0 s4 _ _ st4 loop)
  exact e5
theorem cp2_run (C : Cp2 e t0 i0 t1 i1 ifs0 ifs1 put) (hc : X.calm = true) (hN : X.N.Nodup) (hi : PI X t0 i0 wi) (ok : BlkOk X.N X.env.scope scope own) (hv : ∀ i ∈ vs1, i ∈ own.map (·.2))
    (hg : ∀ s H C cl fp, PG (X.blk s H scope (compEnvC scope cl C X.env) fp) t0 g) (ht : ∀ s H C cl fp, PTs (X.blk s H scope (compEnvC scope cl C X.env) fp) ifs0 tt)
    (hi1 : ∀ s H C cl fp, PI (X.blk s H scope (compEnvC scope cl C X.env) fp) t1 i1 wi1)
    (hg1 : ∀ s H C cl fp, PG (X.blk s H scope (compEnvC scope cl C X.env) fp) t1 g1) (ht1 : ∀ s H C cl fp, PTs (X.blk s H scope (compEnvC scope cl C X.env) fp) ifs1 tt1)
    (hp : ∀ s H C cl fp, PP (X.blk s H scope (compEnvC scope cl C X.env) fp) put tp)
    (hs : ∀ x, foldedSetIterable i0 X.env x = pure x) (hs1 : ∀ env x, foldedSetIterable i1 env x = pure x)
    (hd : ∀ {Q : Value → Shared → Prop} {s : Shared}, Q (.ref s.heap.objs.size) { heap := s.heap.push { cls := .type Ty, data := data }, gens := s.gens, drawn := s.drawn, toks := s.toks, os := s.os } → wpAny (model X.prog X.w) X.A mk Q X.xe s) (hob : ∀ (H : Hp) (h : Heap), sysModules < h.objs.size → ObjOk X.prog X.w H (h.push { cls := .type Ty, data := data }) h.objs.size (u0 h.objs.size))
    (pins : List (Addr × Obj)) (s : Shared) (σ : L2.St) (H : Hp) (Q : VK) (I : L2.Inv X pins σ H s) (h : tCp2 u0 wi g tt wi1 g1 tt1 tp (own.map (·.2)) vs1 σ H Q) :
    wpAny (model X.prog X.w) X.A (comprehension e scope X.env pos mk false (eval i0 X.env)) (EP X pins σ Q) X.xe s :=
  cp2_core C hc hN hi ok hv hg ht hi1 hg1 ht1 hp hs hs1 hd hob pins s σ H Q I h fun D Cc s' m H' I' q hn f =>
    ⟨m, hn, fun h' sb => ⟨.ref D, H', I'.turned (it := Cc) (fun b o hb eo => (sb.2 b hb).trans eo) f.1 f.2.1 f.2.2.2.1 f.2.2.2.2.1 f.2.2.2.2.2, rfl, q⟩⟩
/-- the same kept under a name at once -/
theorem cp2_use {i : Nat} {y : Str} {py : Pos} (C : Cp2 e t0 i0 t1 i1 ifs0 ifs1 put) (hc : X.calm = true) (hN : X.N.Nodup) (hy : X.N[i]? = some y) (hyl : X.env.scope.names.lookup y = some .local) (hi : PI X t0 i0 wi) (ok : BlkOk X.N X.env.scope scope own) (hv : ∀ i ∈ vs1, i ∈ own.map (·.2))
    (hg : ∀ s H C cl fp, PG (X.blk s H scope (compEnvC scope cl C X.env) fp) t0 g) (ht : ∀ s H C cl fp, PTs (X.blk s H scope (compEnvC scope cl C X.env) fp) ifs0 tt)
    (hi1 : ∀ s H C cl fp, PI (X.blk s H scope (compEnvC scope cl C X.env) fp) t1 i1 wi1)
    (hg1 : ∀ s H C cl fp, PG (X.blk s H scope (compEnvC scope cl C X.env) fp) t1 g1) (ht1 : ∀ s H C cl fp, PTs (X.blk s H scope (compEnvC scope cl C X.env) fp) ifs1 tt1)
    (hp : ∀ s H C cl fp, PP (X.blk s H scope (compEnvC scope cl C X.env) fp) put tp)
    (hs : ∀ x, foldedSetIterable i0 X.env x = pure x) (hs1 : ∀ env x, foldedSetIterable i1 env x = pure x)
    (hd : ∀ {Q : Value → Shared → Prop} {s : Shared}, Q (.ref s.heap.objs.size) { heap := s.heap.push { cls := .type Ty, data := data }, gens := s.gens, drawn := s.drawn, toks := s.toks, os := s.os } → wpAny (model X.prog X.w) X.A mk Q X.xe s) (hob : ∀ (H : Hp) (h : Heap), sysModules < h.objs.size → ObjOk X.prog X.w H (h.push { cls := .type Ty, data := data }) h.objs.size (u0 h.objs.size))
    (pins : List (Addr × Obj)) (s : Shared) (σ : L2.St) (H : Hp) (P : L2.St → Hp → Prop) (I : L2.Inv X pins σ H s) (h : tCp2 u0 wi g tt wi1 g1 tt1 tp (own.map (·.2)) vs1 σ H fun x H1 => gName i x σ H1 P) :
    wpAny (model X.prog X.w) X.A (comprehension e scope X.env pos mk false (eval i0 X.env) (some (assign (.Name y py) X.env))) (fun _ s' => ∃ σ' H', L2.Inv X pins σ' H' s' ∧ P σ' H') X.xe s :=
  cp2_core C hc hN hi ok hv hg ht hi1 hg1 ht1 hp hs hs1 hd hob pins s σ H _ I h fun L Cc s' m H' I' q hn f => by
    show wpAny _ _ (assign (.Name y py) X.env (.ref L)) _ _ _
    refine wpAny_assign_Name (store_ok2 (v := V.ref L) I' hN hy (.inl hyl) rfl (fun s2 I2 ⟨a, sb, ha⟩ => ?_) (.inr hyl))
    have haC : Cc ≠ a := by
      rcases ha with z | z
      · rw [z]; exact f.2.1
      · exact fun e => f.2.2.2.2.1 y a z e.symm
    exact ⟨m, hn.sameBut sb haC, fun h3 sb3 => ⟨_, H', I2.turned (it := Cc) (t' := s2.toks) (fun b o hb e => (sb3.2 b hb).trans e) f.1 f.2.1 f.2.2.2.1 f.2.2.2.2.1 f.2.2.2.2.2, q⟩⟩
end
end MV
/-! A dict made by a comprehension of two clauses, its keys ints or texts. -/
namespace MV
open PySem PySem.Spec PyProof.Rows L2
def tpDict (tk tv : TE) : Addr → L2.St → Hp → (Hp → Prop) → Prop := fun D σ H N => tk σ H fun y H4 => tv σ H4 fun z H5 => ∃ kvs k, y = kV k ∧ H5 D = some (.dK kvs) ∧ kvs.length < sizeLine ∧ N (upd H5 D (.dK (putK kvs k z)))
theorem pp_dict {X : Cx} {kx vx : Expr} {tk tv : TE} (hk : PE X kx tk) (hv : PE X vx tv) : PP X (putDict kx vx) (tpDict tk tv) := by
  intro D pins s σ H N I h
  unfold putDict
  refine wpAny_bind (thn (hk.run pins s σ H _ I h) fun u s1 ⟨y, H4, I4, ry, h4⟩ => ?_)
  refine wpAny_bind (wpAny_holding (thn (hv.run pins s1 σ H4 _ I4 h4) fun r s2 ⟨z, H5, I5, rz, kvs, k, ey, hD, hz, q⟩ => ?_))
  subst ey
  exact wpAny_bind (wpAny_standAt (wpAny_holding (d_dictSet I5 hD hz ry rz fun s' I' => ⟨_, I', q⟩)))
section
variable {X : Cx} {kx vx t0 i0 t1 i1 : Expr} {ifs0 ifs1 : List Expr} {scope : Scope} {own : List (Str × Nat)} {vs1 : List Nat} {wi wi1 : TI} {g g1 : TG} {tt tt1 : TT} {tk tv : TE} {pos : Pos}
theorem pe_dc2 (hc : X.calm = true) (hN : X.N.Nodup) (hi : PI X t0 i0 wi) (ok : BlkOk X.N X.env.scope scope own) (hv : ∀ i ∈ vs1, i ∈ own.map (·.2))
    (hg : ∀ s H C cl fp, PG (X.blk s H scope (compEnvC scope cl C X.env) fp) t0 g) (ht : ∀ s H C cl fp, PTs (X.blk s H scope (compEnvC scope cl C X.env) fp) ifs0 tt)
    (hi1 : ∀ s H C cl fp, PI (X.blk s H scope (compEnvC scope cl C X.env) fp) t1 i1 wi1)
    (hg1 : ∀ s H C cl fp, PG (X.blk s H scope (compEnvC scope cl C X.env) fp) t1 g1) (ht1 : ∀ s H C cl fp, PTs (X.blk s H scope (compEnvC scope cl C X.env) fp) ifs1 tt1)
    (hk : ∀ s H C cl fp, PE (X.blk s H scope (compEnvC scope cl C X.env) fp) kx tk) (hw : ∀ s H C cl fp, PE (X.blk s H scope (compEnvC scope cl C X.env) fp) vx tv)
    (hs : ∀ x, foldedSetIterable i0 X.env x = pure x := by intro _; rfl) (hs1 : ∀ env x, foldedSetIterable i1 env x = pure x := by intro _ _; rfl) :
    PE X (.DictComp kx vx [⟨t0, i0, ifs0, 0⟩, ⟨t1, i1, ifs1, 0⟩] scope pos) (tCp2 (fun _ => .dK []) wi g tt wi1 g1 tt1 (tpDict tk tv) (own.map (·.2)) vs1) :=
  ⟨fun pins s σ H Q I h => by
    rw [arm_eval_DictComp]
    exact cp2_run (cp2_dict kx vx t0 i0 t1 i1 ifs0 ifs1 scope pos) hc hN hi ok hv hg ht hi1 hg1 ht1 (fun s H C cl fp => pp_dict (hk s H C cl fp) (hw s H C cl fp)) hs hs1 (Ty := "dict") (data := .dict #[]) (fun h => wpAny_newObj_type h (by exact Nat.zero_le _)) (fun H h hb => dk_empty h hb) pins s σ H Q I h⟩
theorem sw_trueD {kx vx : Expr} {gs : List Comprehension} {scope : Scope} {pos py : Pos} {y : Str} {l : Nat} {env : Env} (hk : env.scope.kind = .function) (hy : env.scope.names.lookup y = some .local) (hl : (py.line == pos.line) = true)
    (ha : (scope.names.any fun (n, k) => n == y && (k == .local || k == .cell)) = false) : swapsWith (.DictComp kx vx gs scope pos) (some (.Name y py)) l env = pure true := by
  have ky : env.kindOf y = some .local := hy
  have hb : env.blockKind = .function := by unfold Env.blockKind; rw [hk]; rfl
  unfold swapsWith
  simp only [hb, ky, ha, Expr.pos, hl]
  rfl
theorem ps_setDc2 {i : Nat} {y : Str} {py spos : Pos} (hc : X.calm = true) (hN : X.N.Nodup) (hy : X.N[i]? = some y) (hyl : X.env.scope.names.lookup y = some .local)
    (hsw : swapsWith (.DictComp kx vx [⟨t0, i0, ifs0, 0⟩, ⟨t1, i1, ifs1, 0⟩] scope pos) (some (.Name y py)) spos.line X.env = pure true) (hi : PI X t0 i0 wi) (ok : BlkOk X.N X.env.scope scope own) (hv : ∀ i ∈ vs1, i ∈ own.map (·.2))
    (hg : ∀ s H C cl fp, PG (X.blk s H scope (compEnvC scope cl C X.env) fp) t0 g) (ht : ∀ s H C cl fp, PTs (X.blk s H scope (compEnvC scope cl C X.env) fp) ifs0 tt)
    (hi1 : ∀ s H C cl fp, PI (X.blk s H scope (compEnvC scope cl C X.env) fp) t1 i1 wi1)
    (hg1 : ∀ s H C cl fp, PG (X.blk s H scope (compEnvC scope cl C X.env) fp) t1 g1) (ht1 : ∀ s H C cl fp, PTs (X.blk s H scope (compEnvC scope cl C X.env) fp) ifs1 tt1)
    (hk : ∀ s H C cl fp, PE (X.blk s H scope (compEnvC scope cl C X.env) fp) kx tk) (hw : ∀ s H C cl fp, PE (X.blk s H scope (compEnvC scope cl C X.env) fp) vx tv)
    (hs : ∀ x, foldedSetIterable i0 X.env x = pure x := by intro _; rfl) (hs1 : ∀ env x, foldedSetIterable i1 env x = pure x := by intro _ _; rfl) :
    PS X (.Assign [.Name y py] (.DictComp kx vx [⟨t0, i0, ifs0, 0⟩, ⟨t1, i1, ifs1, 0⟩] scope pos) spos) (tAsg (tCp2 (fun _ => .dK []) wi g tt wi1 g1 tt1 (tpDict tk tv) (own.map (·.2)) vs1) (gName i)) := by
  refine ⟨fun pins s σ H D I h => ?_⟩
  rw [exec_Assign_Name_used _ _ _ _ hsw]
  refine wpAny_bind (wpAny_standAt (wpAny_bind ?_))
  show wpAny _ X.A (do let _ ← comprehension (.DictComp kx vx [⟨t0, i0, ifs0, 0⟩, ⟨t1, i1, ifs1, 0⟩] scope pos) scope X.env (firstIterPos [⟨t0, i0, ifs0, 0⟩, ⟨t1, i1, ifs1, 0⟩] pos) newDict false (eval i0 X.env) (some (assign (.Name y py) X.env))) _ _ s
  exact wpAny_bind (thn (cp2_use (cp2_dict kx vx t0 i0 t1 i1 ifs0 ifs1 scope pos) hc hN hy hyl hi ok hv hg ht hi1 hg1 ht1 (fun s H C cl fp => pp_dict (hk s H C cl fp) (hw s H C cl fp)) hs hs1 (Ty := "dict") (data := .dict #[]) (fun h => wpAny_newObj_type h (by exact Nat.zero_le _)) (fun H h hb => dk_empty h hb) pins s σ H D.nx I h) fun _ s' hq => wpAny_pure (wpAny_pure hq))
end
/-! ### the code -/
def dcL (g : CG) (tt : CT) (ck cv : CE) (L : Nat) (σ : SA) : List Val → AH → Option AH
  | [], h => some h
  | x :: xs, h => match g x h with
    | none => none
    | some ups => match tt (setAll σ ups) h with
      | some (.ok false, h1) => dcL g tt ck cv L σ xs h1
      | some (.ok true, h1) => match ck (setAll σ ups) h1 with
        | some (.ok y, h2) => match cv (setAll σ ups) h2 with
          | some (.ok z, h3) => match h3[L]? with
            | some (.dK kvs) => match ky1 y with
              | some k => if kvs.length < sizeLine then dcL g tt ck cv L σ xs (h3.set L (.dK (putA kvs k z))) else none
              | none => none
            | _ => none
          | _ => none
        | _ => none
      | _ => none
def dcO (g : CG) (ct : CT) (ci1 : CI) (vs1 : List Nat) (g1 : CG) (ct1 : CT) (ck cv : CE) (L : Nat) (σ : SA) : List Val → AH → Option AH
  | [], h => some h
  | x :: xs, h => match g x h with
    | none => none
    | some ups => match ct (setAll σ ups) h with
      | some (.ok false, h1) => dcO g ct ci1 vs1 g1 ct1 ck cv L σ xs h1
      | some (.ok true, h1) => match ci1 (setAll σ ups) h1 with
        | some (.ok ys, h2) => (dcL g1 ct1 ck cv L (wipeA (setAll σ ups) vs1) ys h2).bind fun h3 => dcO g ct ci1 vs1 g1 ct1 ck cv L σ xs h3
        | _ => none
      | _ => none
def cDc2 (ci : CI) (own : List Nat) (g : CG) (ct : CT) (ci1 : CI) (vs1 : List Nat) (g1 : CG) (ct1 : CT) (ck cv : CE) : CE := fun σ => bnd (ci σ) fun xs => lift fun h => (dcO g ct ci1 vs1 g1 ct1 ck cv h.length (wipeA σ own) xs (h ++ [.dK []])).map fun h' => (.ref h.length, h')
section
variable {X : Cx} {T : Tx} {W : WX} {k : Nat} {kx vx tg iter tg1 iter1 : Expr} {ifs ifs1 : List Expr} {pos p : Pos} {ck cv : CE} {ct ct1 : CT} {ci ci1 : CI} {ns ns1 vs1 : List Nat} {g g1 : CG}
theorem dc2_read {own : List (Str × Nat)} {σ : L2.St} {H : Hp} {Q : VK} (hns : ∀ i ∈ ns, i ∈ own.map (·.2)) (hn : ∀ x h ups, g x h = some ups → ups.map (·.1) = ns) (hns1 : ∀ i ∈ ns1, i ∈ vs1) (hn1 : ∀ x h ups, g1 x h = some ups → ups.map (·.1) = ns1)
    (h : tE X T W (cDc2 ci (own.map (·.2)) g ct ci1 vs1 g1 ct1 ck cv) σ H Q) : tCp2 (fun _ => .dK []) (tI X T W ci) (tG X.K T g) (tT X T W0 ct) (tI X T W0 ci1) (tG X.K T g1) (tT X T W0 ct1) (tpDict (tE X T W0 ck) (tE X T W0 cv)) (own.map (·.2)) vs1 σ H Q := by
  obtain ⟨m, h0, σa, S, RS, A⟩ := h
  refine ⟨m, h0, σa, S, RS, A.bind.mono fun m1 h1 H1 xs E1 S1 A1 J hJ D hD => ?_⟩
  obtain ⟨z, h9, e9, q9⟩ := A1.lifted
  obtain ⟨hE, eL, eE⟩ := Option.map_eq_some_iff.mp e9
  have RS1 : RepS X.K m1 H1 (wipeA σa (own.map (·.2))) (wipe σ (own.map (·.2))) := (RS.mono E1).wipe _
  have hm1 : h1.length = m1.length := S1.len
  have E2 : Ext m1 H1 (m1 ++ [some D]) (upd H1 D (.dK [])) := Ext.push S1 hD
  refine ⟨fun i mm H => mm = xs.length - i ∧ ∃ m h, Ext (m1 ++ [some D]) (upd H1 D (.dK [])) m H ∧ Sim X.K T m h H ∧ dcO g ct ci1 vs1 g1 ct1 ck cv h1.length (wipeA σa (own.map (·.2))) (xs.drop i) h = some hE, ⟨_, rfl, m1 ++ [some D], h1 ++ [.dK []], Ext.refl _ _, S1.pushC hD (.dK upd_same .nil), by rw [List.drop_zero]; exact eL⟩, ?_⟩
  rintro i mm H2 ⟨rfl, m2, h2, E3, S2, e2⟩
  have hJ2 : ItOk X.K T (m1 ++ [some D]) (upd H1 D (.dK [])) xs J := hJ.mono E2
  by_cases hi : i < xs.length
  · refine .inr ⟨hJ2.go m2 h2 H2 i E3 S2 hi, fun H' => ∃ m h, Ext (m1 ++ [some D]) (upd H1 D (.dK [])) m H' ∧ Sim X.K T m h H' ∧ dcO g ct ci1 vs1 g1 ct1 ck cv h1.length (wipeA σa (own.map (·.2))) (xs.drop (i + 1)) h = some hE, fun H' hN => ⟨xs.length - (i + 1), by omega, rfl, hN⟩, fun x H3 y => ?_⟩
    obtain ⟨xa, m3, ex, E4, S3, rx⟩ := hJ2.yld m2 h2 H2 i x H3 E3 S2 hi y
    have hd : xs.drop i = xa :: xs.drop (i + 1) := by
      obtain ⟨hi', e'⟩ := List.getElem?_eq_some_iff.mp ex
      rw [List.drop_eq_getElem_cons hi', e']
    rw [hd] at e2
    unfold dcO at e2
    cases hgx : g xa h2 with
    | none => rw [hgx] at e2; cases e2
    | some ups =>
      simp only [hgx] at e2
      refine ⟨m3, h2, xa, ups, S3, rx, hgx, fun ws hw => ⟨?_, m3, h2, setAll (wipeA σa (own.map (·.2))) ups, S3, ?_, ?_⟩⟩
      · rw [wipe_setAll ws _ fun w hw' => hns _ (by
          have : w.1 ∈ ws.map (·.1) := List.mem_map.mpr ⟨w, hw', rfl⟩
          rw [ups_fst hw, hn _ _ _ hgx] at this
          exact this), wipe_wipe σ _ fun u hu => hu]
      · exact (((RS1.mono E2).mono E3).mono E4).setAll hw
      · cases ht : ct (setAll (wipeA σa (own.map (·.2))) ups) h2 with
        | none => simp only [ht] at e2; cases e2
        | some p5 =>
          obtain ⟨r5, h5⟩ := p5
          simp only [ht] at e2
          cases r5 with
          | exn _ _ => cases e2
          | ok bb =>
            refine ⟨_, _, rfl, fun m5 H5 E5 S5 b' rb => ?_⟩
            subst rb
            cases b' with
            | false =>
              rw [if_neg Bool.false_ne_true]
              exact ⟨m5, h5, (E3.trans E4).trans E5, S5, e2⟩
            | true =>
              rw [if_pos rfl]
              simp only at e2
              have RS2 := (((((RS1.mono E2).mono E3).mono E4).setAll hw).mono E5)
              generalize hs2 : setAll (wipeA σa (own.map (·.2))) ups = s2 at e2 RS2 ⊢
              refine ⟨m5, h5, s2, S5, RS2, ?_⟩
              cases hci : ci1 s2 h5 with
              | none => simp only [hci] at e2; cases e2
              | some p6 =>
                obtain ⟨r6, h6⟩ := p6
                simp only [hci] at e2
                cases r6 with
                | exn _ _ => cases e2
                | ok ys =>
                  refine ⟨_, _, rfl, fun m6 H6 E6 S6 J1 hJ1 => ?_⟩
                  simp only at e2
                  obtain ⟨hI, eI, eO⟩ := Option.bind_eq_some_iff.mp e2
                  have RS2 := RS2.mono E6
                  have EB : Ext (m1 ++ [some D]) (upd H1 D (.dK [])) m6 H6 := ((E3.trans E4).trans E5).trans E6
                  refine ⟨fun j mm H => mm = ys.length - j ∧ ∃ m h, Ext m6 H6 m H ∧ Sim X.K T m h H ∧ dcL g1 ct1 ck cv h1.length (wipeA s2 vs1) (ys.drop j) h = some hI, ⟨_, rfl, m6, h6, Ext.refl _ _, S6, by rw [List.drop_zero]; exact eI⟩, ?_⟩
                  rintro j mm G2 ⟨rfl, n2, g2, F3, T2, i2⟩
                  have RS2 := RS2.wipe vs1
                  have hK2 : ItOk X.K T m6 H6 ys J1 := hJ1
                  by_cases hj : j < ys.length
                  · refine .inr ⟨hK2.go n2 g2 G2 j F3 T2 hj, fun H' => ∃ m h, Ext m6 H6 m H' ∧ Sim X.K T m h H' ∧ dcL g1 ct1 ck cv h1.length (wipeA s2 vs1) (ys.drop (j + 1)) h = some hI, fun H' hN => ⟨ys.length - (j + 1), by omega, rfl, hN⟩, fun y G3 yy => ?_⟩
                    obtain ⟨ya, n3, ey, F4, T3, ry⟩ := hK2.yld n2 g2 G2 j y G3 F3 T2 hj yy
                    have id1 : ys.drop j = ya :: ys.drop (j + 1) := by
                      obtain ⟨hj', f'⟩ := List.getElem?_eq_some_iff.mp ey
                      rw [List.drop_eq_getElem_cons hj', f']
                    rw [id1] at i2
                    unfold dcL at i2
                    cases igx : g1 ya g2 with
                    | none => rw [igx] at i2; cases i2
                    | some vps =>
                      simp only [igx] at i2
                      refine ⟨n3, g2, ya, vps, T3, ry, igx, fun us iw => ⟨?_, n3, g2, setAll (wipeA s2 vs1) vps, T3, ?_, ?_⟩⟩
                      · rw [wipe_setAll us _ fun w iw' => hns1 _ (by
                          have : w.1 ∈ us.map (·.1) := List.mem_map.mpr ⟨w, iw', rfl⟩
                          rw [ups_fst iw, hn1 _ _ _ igx] at this
                          exact this), wipe_wipe _ _ fun u hu => hu]
                      · exact ((RS2.mono F3).mono F4).setAll iw
                      · cases it : ct1 (setAll (wipeA s2 vs1) vps) g2 with
                        | none => simp only [it] at i2; cases i2
                        | some q5 =>
                          obtain ⟨s5, g5⟩ := q5
                          simp only [it] at i2
                          cases s5 with
                          | exn _ _ => cases i2
                          | ok cc =>
                            refine ⟨_, _, rfl, fun n5 G5 F5 T5 c' rc => ?_⟩
                            subst rc
                            cases c' with
                            | false =>
                              rw [if_neg Bool.false_ne_true]
                              exact ⟨n5, g5, (F3.trans F4).trans F5, T5, i2⟩
                            | true =>
                              rw [if_pos rfl]
                              simp only at i2
                              refine ⟨n5, g5, setAll (wipeA s2 vs1) vps, T5, (((RS2.mono F3).mono F4).setAll iw).mono F5, ?_⟩
                              cases ie : ck (setAll (wipeA s2 vs1) vps) g5 with
                              | none => simp only [ie] at i2; cases i2
                              | some q6 =>
                                obtain ⟨s6, g6⟩ := q6
                                simp only [ie] at i2
                                cases s6 with
                                | exn _ _ => cases i2
                                | ok y6 =>
                                  refine ⟨_, _, rfl, fun n6 G6 F6 T6 w6 r6 => ?_⟩
                                  simp only at i2
                                  refine ⟨n6, g6, setAll (wipeA s2 vs1) vps, T6, ((((RS2.mono F3).mono F4).setAll iw).mono F5).mono F6, ?_⟩
                                  cases ie7 : cv (setAll (wipeA s2 vs1) vps) g6 with
                                  | none => simp only [ie7] at i2; cases i2
                                  | some q7 =>
                                    obtain ⟨s7, g7⟩ := q7
                                    simp only [ie7] at i2
                                    cases s7 with
                                    | exn _ _ => cases i2
                                    | ok z7 =>
                                      refine ⟨_, _, rfl, fun n7 G7 F7 T7 w7 r7 => ?_⟩
                                      simp only at i2
                                      cases iL : g7[h1.length]? with
                                      | none => simp only [iL] at i2; cases i2
                                      | some d6 =>
                                        simp only [iL] at i2
                                        cases d6 with
                                        | dK adc =>
                                          simp only at i2
                                          cases ik : ky1 y6 with
                                          | none => simp only [ik] at i2; cases i2
                                          | some key =>
                                            simp only [ik] at i2
                                            by_cases iz : adc.length < sizeLine
                                            · rw [if_pos iz] at i2
                                              have FF : Ext (m1 ++ [some D]) (upd H1 D (.dK [])) n7 G7 := ((EB.trans ((F3.trans F4).trans F5)).trans F6).trans F7
                                              obtain ⟨u7, fx7, ok8⟩ := Paired.at_ T7.cell iL
                                              cases ok8 with
                                              | @dK b7 _ us7 eb s7 =>
                                                have eb7 : b7 = D := by
                                                  have := FF.at' h1.length b7 (by rw [List.length_append, hm1]; simp) fx7
                                                  rw [List.getElem?_append_right (by omega), hm1] at this
                                                  simpa using this.symm
                                                subst eb7
                                                have k7 : adc.length = us7.length := Paired.len s7
                                                have FS := Ext.store fx7 (.dK (putK us7 key w7)) ⟨_, eb, (fun _ _ z => nomatch z), (fun _ z => nomatch z)⟩
                                                exact ⟨us7, key, ky1_rp ik r6, eb, by omega, n7, g7.set h1.length (.dK (putA adc key z7)), ((((F3.trans F4).trans F5).trans F6).trans F7).trans FS, T7.store fx7 (.dK upd_same (KvR.mono FS (KvR.put s7 key r7))), i2⟩
                                            · rw [if_neg iz] at i2; cases i2
                                        | _ => cases i2
                  · refine .inl ⟨hK2.stop n2 g2 G2 j F3 T2 (by omega), ?_⟩
                    rw [List.drop_of_length_le (by omega)] at i2
                    have i3 : g2 = hI := Option.some.inj i2
                    subst i3
                    exact ⟨n2, g2, EB.trans F3, T2, eO⟩
  · refine .inl ⟨hJ2.stop m2 h2 H2 i E3 S2 (by omega), ?_⟩
    rw [List.drop_of_length_le (by omega)] at e2
    have e3 : h2 = hE := Option.some.inj e2
    subst e3
    cases eE
    refine q9 m2 H2 (E2.trans E3) S2 _ ⟨?_, fun a ea => ?_⟩
    · have := E3.len
      rw [List.length_append, List.length_singleton] at this
      omega
    · have := E3.at' h1.length a (by rw [List.length_append, hm1]; simp) ea
      rw [List.getElem?_append_right (by omega), hm1] at this
      simp at this
      rw [this]
theorem re_dc2 {scope : Scope} {own : List (Str × Nat)} (C : Cok X W k) (hi : RI X T W tg iter ci) (ok : BlkOk X.N X.env.scope scope own) (hns : ∀ i ∈ ns, i ∈ own.map (·.2)) (hns1 : ∀ i ∈ ns1, i ∈ vs1) (hv : ∀ i ∈ vs1, i ∈ own.map (·.2))
    (hg : ∀ (s : Shared) (H : Hp) (C : Addr) (cl : List (Str × Addr)) (fp : List Addr), RG (X.blk s H scope (compEnvC scope cl C X.env) fp) T tg ns g) (ht : ∀ (s : Shared) (H : Hp) (C : Addr) (cl : List (Str × Addr)) (fp : List Addr), RTs (X.blk s H scope (compEnvC scope cl C X.env) fp) T W0 ifs ct)
    (hi1 : ∀ (s : Shared) (H : Hp) (C : Addr) (cl : List (Str × Addr)) (fp : List Addr), RI (X.blk s H scope (compEnvC scope cl C X.env) fp) T W0 tg1 iter1 ci1)
    (hg1 : ∀ (s : Shared) (H : Hp) (C : Addr) (cl : List (Str × Addr)) (fp : List Addr), RG (X.blk s H scope (compEnvC scope cl C X.env) fp) T tg1 ns1 g1) (ht1 : ∀ (s : Shared) (H : Hp) (C : Addr) (cl : List (Str × Addr)) (fp : List Addr), RTs (X.blk s H scope (compEnvC scope cl C X.env) fp) T W0 ifs1 ct1)
    (hk : ∀ (s : Shared) (H : Hp) (C : Addr) (cl : List (Str × Addr)) (fp : List Addr), RE (X.blk s H scope (compEnvC scope cl C X.env) fp) T W0 kx ck) (hw : ∀ (s : Shared) (H : Hp) (C : Addr) (cl : List (Str × Addr)) (fp : List Addr), RE (X.blk s H scope (compEnvC scope cl C X.env) fp) T W0 vx cv)
    (hs : ∀ x, foldedSetIterable iter X.env x = pure x := by intro _; rfl) (hs1 : ∀ env x, foldedSetIterable iter1 env x = pure x := by intro _ _; rfl) :
    RE X T W (.DictComp kx vx [⟨tg, iter, ifs, 0⟩, ⟨tg1, iter1, ifs1, 0⟩] scope pos) (cDc2 ci (own.map (·.2)) g ct ci1 vs1 g1 ct1 ck cv) :=
  ⟨⟨fun pins s σ H Q I h => (pe_dc2 C.calm C.nd hi.pi ok hv (fun s H C cl fp => (hg s H C cl fp).pg) (fun s H C cl fp => (ht s H C cl fp).pts) (fun s H C cl fp => (hi1 s H C cl fp).pi) (fun s H C cl fp => (hg1 s H C cl fp).pg) (fun s H C cl fp => (ht1 s H C cl fp).pts) (fun s H C cl fp => (hk s H C cl fp).pe) (fun s H C cl fp => (hw s H C cl fp).pe) hs hs1).run pins s σ H Q I (dc2_read hns (hg s H 0 [] []).ns hns1 (hg1 s H 0 [] []).ns h)⟩⟩
theorem rs_setDc2 {i : Nat} {y : Str} {py spos : Pos} {scope : Scope} {own : List (Str × Nat)} (C : Cok X W k) (hi : RI X T W tg iter ci) (ok : BlkOk X.N X.env.scope scope own) (hns : ∀ i ∈ ns, i ∈ own.map (·.2)) (hns1 : ∀ i ∈ ns1, i ∈ vs1) (hv : ∀ i ∈ vs1, i ∈ own.map (·.2))
    (hg : ∀ (s : Shared) (H : Hp) (C : Addr) (cl : List (Str × Addr)) (fp : List Addr), RG (X.blk s H scope (compEnvC scope cl C X.env) fp) T tg ns g) (ht : ∀ (s : Shared) (H : Hp) (C : Addr) (cl : List (Str × Addr)) (fp : List Addr), RTs (X.blk s H scope (compEnvC scope cl C X.env) fp) T W0 ifs ct)
    (hi1 : ∀ (s : Shared) (H : Hp) (C : Addr) (cl : List (Str × Addr)) (fp : List Addr), RI (X.blk s H scope (compEnvC scope cl C X.env) fp) T W0 tg1 iter1 ci1)
    (hg1 : ∀ (s : Shared) (H : Hp) (C : Addr) (cl : List (Str × Addr)) (fp : List Addr), RG (X.blk s H scope (compEnvC scope cl C X.env) fp) T tg1 ns1 g1) (ht1 : ∀ (s : Shared) (H : Hp) (C : Addr) (cl : List (Str × Addr)) (fp : List Addr), RTs (X.blk s H scope (compEnvC scope cl C X.env) fp) T W0 ifs1 ct1)
    (hk : ∀ (s : Shared) (H : Hp) (C : Addr) (cl : List (Str × Addr)) (fp : List Addr), RE (X.blk s H scope (compEnvC scope cl C X.env) fp) T W0 kx ck) (hw : ∀ (s : Shared) (H : Hp) (C : Addr) (cl : List (Str × Addr)) (fp : List Addr), RE (X.blk s H scope (compEnvC scope cl C X.env) fp) T W0 vx cv)
    (hy : X.N[i]? = some y := by rfl) (hyl : X.env.scope.names.lookup y = some .local := by rfl)
    (hsw : swapsWith (.DictComp kx vx [⟨tg, iter, ifs, 0⟩, ⟨tg1, iter1, ifs1, 0⟩] scope pos) (some (.Name y py)) spos.line X.env = pure true := by exact sw_trueD rfl rfl rfl (by decide +kernel)) (hs : ∀ x, foldedSetIterable iter X.env x = pure x := by intro _; rfl) (hs1 : ∀ env x, foldedSetIterable iter1 env x = pure x := by intro _ _; rfl) :
    RS X T W (.Assign [.Name y py] (.DictComp kx vx [⟨tg, iter, ifs, 0⟩, ⟨tg1, iter1, ifs1, 0⟩] scope pos) spos) (sAsg (gN i) (cDc2 ci (own.map (·.2)) g ct ci1 vs1 g1 ct1 ck cv)) :=
  ⟨⟨fun pins s σ H D I h => (ps_setDc2 C.calm C.nd hy hyl hsw hi.pi ok hv (fun s H C cl fp => (hg s H C cl fp).pg) (fun s H C cl fp => (ht s H C cl fp).pts) (fun s H C cl fp => (hi1 s H C cl fp).pi) (fun s H C cl fp => (hg1 s H C cl fp).pg) (fun s H C cl fp => (ht1 s H C cl fp).pts) (fun s H C cl fp => (hk s H C cl fp).pe) (fun s H C cl fp => (hw s H C cl fp).pe) hs hs1).run pins s σ H D I (by
    refine dc2_read hns (hg s H 0 [] []).ns hns1 (hg1 s H 0 [] []).ns (by_tE h fun m h1 H1 σa x v S RS r A => ?_)
    obtain ⟨f, h', e, q⟩ := A
    cases e
    exact q m H1 _ (Ext.refl _ _) S (RS.set i r))⟩⟩
end
end MV
/-! {k: v}, one pair, the key plain or a tuple -/
namespace MV
open PySem PySem.Spec PyProof.Rows L2
theorem d_dictSetP {X : Cx} {pins : List (Addr × Obj)} {σ : L2.St} {H H' : Hp} {s : Shared} {E : Value → Shared → Prop} {D : Addr} {y v : V} {u r : Value} {Q : Unit → Shared → Prop} (hu : X.A.units + 1 < cLine) (I : L2.Inv X pins σ H s) (g : DPut H D y v H')
    (ry : RelV y u) (rv : RelV v r) (h : ∀ s', L2.Inv X pins σ H' s' → Q () s') : wpAny (model X.prog X.w) X.A (dictSet D u r) Q E s := by
  rcases g with ⟨kvs, k, e, ey, l, eH⟩ | ⟨kvs, k, b, e, ey, eb, l, eH⟩
  · subst ey eH
    exact d_dictSet I e l ry rv h
  · subst ey eH
    cases (show u = Value.ref b from ry)
    obtain ⟨z, hd, xs, rel, dd⟩ := dt_of I.hok e
    have hz : xs.length ≤ sizeLine := by rw [← Paired.length rel]; exact z
    have hl : (putK kvs k v).length ≤ sizeLine := by have := length_putK kvs k v; omega
    have hroom : (tupleKind (mixKind X.prog X.w)).room X.A := by show X.A.units < cLine; omega
    refine wpAny_dictSet_heap (hsz := hz) hroom (key_of I.hok eb) dd fun h' dd' hs => h _ ?_
    obtain ⟨q, es, ep, hq, h2, h3, h4, _, h5⟩ := dd'
    refine d_write I (by rw [e]; exact True.intro) hs ⟨q, hq⟩ ⟨hl, hd, _, (rel.put k eb rv).keeps fun c ys ec => ?_, q, es, ep, hq, h2, h3, h4, h5⟩
    rw [upd_ne (L2.ne_of ec e (fun z => nomatch z))]
    exact ec
def tDisp1 (u0 : HO) (tk tv : TE) : TE := fun σ H Q => ∀ p, H p = none → tk σ (upd H p u0) fun y H2 => tv σ H2 fun z H3 => ∃ H4, DPut H3 p y z H4 ∧ Q (.ref p) H4
theorem pe_disp1 {X : Cx} {kx vx : Expr} {pos : Pos} {tk tv : TE} {u0 : HO} (hu : X.A.units + 1 < cLine) (hob : ∀ (H : Hp) (h : Heap), sysModules < h.objs.size → ObjOk X.prog X.w H (h.push { cls := .type "dict", data := .dict #[] }) h.objs.size u0) (hk : PE X kx tk) (hv : PE X vx tv) :
    PE X (.Dict [some kx] [vx] pos) (tDisp1 u0 tk tv) := by
  refine ⟨fun pins s σ H Q I q => ?_⟩
  have hn := I.hok.fresh (Nat.le_refl s.heap.objs.size)
  have I1 := I.laid (a := s.heap.objs.size) (o := u0) (h' := s.heap.push { cls := .type "dict", data := .dict #[] }) (t' := s.toks) (fun _ _ q => Heap.get?_push_of_some _ q) (Nat.le_refl _) (hob _ s.heap I.big)
  refine wpAny_Dict_any rfl rfl (by simp) (by simp) ?_
  show wpAny (model X.prog X.w) X.A (evalPairs [(eval kx X.env, do let x ← eval vx X.env; standAt pos; pure x)]) _ X.xe _
  unfold evalPairs
  refine wpAny_bind (thn (hk.run pins _ σ _ _ I1 (q _ hn)) fun u s1 ⟨y, H2, I2, ry, q2⟩ => ?_)
  refine wpAny_bind (wpAny_holding (wpAny_bind (thn (hv.run pins _ σ _ _ I2 q2) fun r s2 ⟨z, H3, I3, rz, H4, hp, q3⟩ => wpAny_bind (wpAny_standAt (wpAny_pure ?_)))))
  refine wpAny_bind (wpAny_holding ?_)
  unfold evalPairs
  refine wpAny_pure (wpAny_pure ?_)
  unfold storeAll
  rw [List.forIn_cons]
  refine wpAny_bind (wpAny_bind (d_dictSetP hu I3 hp ry rz fun s' I' => wpAny_pure ?_))
  exact wpAny_pure ⟨.ref s.heap.objs.size, H4, I', rfl, q3⟩
theorem put_of {K : PySem.W.Frag} {T : Tx} {m : MM} {h h' : AH} {H : Hp} {l : Nat} {i v : Val} {p : Addr} {iv vv : V} (S : Sim K T m h H) (em : m[l]? = some (some p)) (r2 : RepV K m H i iv) (r3 : RepV K m H v vv) (e : setD (.ref l) i v h = some h') :
    ∃ H', DPut H p iv vv H' ∧ Ext m H m H' ∧ Sim K T m h' H' := by
  have r1 : RepV K m H (.ref l) (.ref p) := ⟨(List.getElem?_eq_some_iff.mp em).1, fun a ea => by rw [em] at ea; cases ea; rfl⟩
  unfold setD at e
  simp only at e
  split at e
  · rename_i kvs hl
    split at e
    · rename_i k hk
      by_cases hz : kvs.length < sizeLine
      · rw [if_pos hz] at e
        cases e
        obtain ⟨a, ws, ep, em', ha, hr⟩ := cell_dK S r1 hl
        cases ep
        have ek := ky1_rp hk r2
        subst ek
        have E := Ext.store em (.dK (putK ws k vv)) ⟨_, ha, (fun _ _ z => nomatch z), (fun _ z => nomatch z)⟩
        exact ⟨_, DPut.k ha (by rw [← Paired.len hr]; exact hz), E, S.store em (.dK upd_same (KvR.mono E (hr.put k r3)))⟩
      · rw [if_neg hz] at e; cases e
    · cases e
  · rename_i kvs hl
    split at e
    · rename_i k hk
      by_cases hz : kvs.length < sizeLine
      · rw [if_pos hz] at e
        cases e
        obtain ⟨a, ws, ep, em', ha, hr⟩ := cell_dT S r1 hl
        cases ep
        obtain ⟨b, rfl, hb⟩ := kyT_rp hk r2
        have E := Ext.store em (.dT (putK ws k vv)) ⟨_, ha, (fun _ _ z => nomatch z), (fun _ z => nomatch z)⟩
        exact ⟨_, DPut.t ha hb (by rw [← Paired.len hr]; exact hz), E, S.store em (.dT upd_same (KvR.mono E (hr.put k r3)))⟩
      · rw [if_neg hz] at e; cases e
    · cases e
  · cases e
def cDisp1 (c0 : Cell) (ck cv : CE) : CE := fun σ => bnd (lift fun h => some (h.length, h ++ [c0])) fun L => bnd (ck σ) fun y => bnd (cv σ) fun z => lift fun h => (setD (.ref L) y z h).map fun h4 => (.ref L, h4)
section
variable {X : Cx} {T : Tx} {W : WX} {kx vx : Expr} {pos : Pos} {ck cv : CE}
theorem disp1_read {u0 : HO} {c0 : Cell} {σ : L2.St} {H : Hp} {Q : VK} (ok0 : ∀ (m : MM) (H : Hp) (p : Addr), CellOk X.K (m ++ [some p]) (upd H p u0) c0 (some p)) (h : tE X T W (cDisp1 c0 ck cv) σ H Q) : tDisp1 u0 (tE X T W ck) (tE X T W cv) σ H Q := by
  obtain ⟨m, h0, σa, S, RS, A⟩ := h
  intro p hp
  obtain ⟨L, h1, e, q⟩ := A.bind.lifted
  cases e
  have E1 : Ext m H (m ++ [some p]) (upd H p u0) := Ext.push S hp
  have S1 : Sim X.K T (m ++ [some p]) (h0 ++ [c0]) (upd H p u0) := S.pushC hp (ok0 m H p)
  have A1 := q _ _ E1 S1
  have em : (m ++ [some p])[h0.length]? = some (some p) := by rw [S.len]; simp
  refine ⟨_, _, σa, S1, RS.mono E1, A1.bind.mono fun m2 h2 H2 y E2 S2 A2 w ry => ?_⟩
  refine ⟨_, _, σa, S2, (RS.mono E1).mono E2, A2.bind.mono fun m3 h3 H3 z E3 S3 A3 wz rz => ?_⟩
  obtain ⟨x, h4, e4, q4⟩ := A3.lifted
  obtain ⟨h5, e5, e6⟩ := Option.map_eq_some_iff.mp e4
  cases e6
  have hlt : h0.length < m3.length := by
    have a1 := E2.len
    have a2 := E3.len
    have a3 := S.len
    rw [List.length_append, List.length_singleton] at a1
    omega
  have em3 : m3[h0.length]? = some (some p) := by
    have : ∃ a, m3[h0.length]? = some (some a) := by
      have hl3 : h0.length < h3.length := by rw [S3.len]; exact hlt
      have hcell : ∃ c, h3[h0.length]? = some c := ⟨_, List.getElem?_eq_getElem hl3⟩
      obtain ⟨c, hc⟩ := hcell
      obtain ⟨x, ex, okx⟩ := Paired.at_ S3.cell hc
      cases x with
      | some a => exact ⟨a, ex⟩
      | none =>
        cases okx
        exfalso
        unfold setD at e5
        simp only [hc] at e5
        cases e5
    obtain ⟨a, ea⟩ := this
    have b1 := E3.at' h0.length a (by have a1 := E2.len; have a3 := S.len; rw [List.length_append, List.length_singleton] at a1; omega) ea
    have b2 := E2.at' h0.length a (by rw [List.length_append, List.length_singleton, S.len]; omega) b1
    rw [em] at b2
    cases b2
    exact ea
  obtain ⟨H', dp, E4, S4⟩ := put_of S3 em3 (ry.mono E3) rz e5
  exact ⟨H', dp, q4 m3 H' E4 S4 _ ⟨hlt, fun a ea => by rw [em3] at ea; cases ea; rfl⟩⟩
theorem re_disp1K (hu : X.A.units + 1 < cLine) (hk : RE X T W kx ck) (hv : RE X T W vx cv) : RE X T W (.Dict [some kx] [vx] pos) (cDisp1 (.dK []) ck cv) :=
  ⟨PE.imp (pe_disp1 (u0 := .dK []) hu (fun H h hb => dk_empty h hb) hk.pe hv.pe) fun σ H Q h => disp1_read (fun m H p => .dK upd_same .nil) h⟩
theorem re_disp1T (hu : X.A.units + 1 < cLine) (hk : RE X T W kx ck) (hv : RE X T W vx cv) : RE X T W (.Dict [some kx] [vx] pos) (cDisp1 (.dT []) ck cv) :=
  ⟨PE.imp (pe_disp1 (u0 := .dT []) hu (fun H h hb => dt_empty h hb) hk.pe hv.pe) fun σ H Q h => disp1_read (fun m H p => .dT upd_same .nil) h⟩
end
end MV
/-! defs by their names, the end -/
namespace MV
open PySem PySem.Spec PyProof.Rows L2
/-- the function that a name tells -/
def fdOf (K : PySem.W.Frag) (x : Str) : FuncData := match K.lookup (He.ga K x) with
  | some ⟨_, _, .func fd, _⟩ => fd
  | _ => PySem.W.fnOf x x { posonlyargs := [], args := [], vararg := none, kwonlyargs := [], kw_defaults := [], kwarg := none, defaults := [] } [] { kind := .function, names := [], isGenerator := false, isCoroutine := false, more := [] } .none .none .none .none none .none .none
/-- a def of the text, by its name -/
structure Dn (K : PySem.W.Frag) (mg : Str → Option Value) (x : Str) (st : Stmt) (ps : List Str) : Prop where
  ex : ∃ (oc : Value) (od : Option Addr) (kV doc pm : Value) (an : Option Addr) (ct : Value) (osl : Array (Option Value)),
    fdOf K x = PySem.W.fnOf x x (defArgs st) (defBody st) (defScope st) .none kV doc pm an (.ref (He.codeOf K (x, none))) ct ∧ K.lookup (He.ga K x) = some ⟨oc, od, .func (fdOf K x), osl⟩ ∧ PySem.W.codeIn K (.ref (He.codeOf K (x, none))) x = true
  df : Df K mg x st ps (He.ga K x) (fdOf K x)
abbrev FO (P : Program) (w : World) (K : PySem.W.Frag) (T : Tx) (mg : Str → Option Value) (base : Heap) (k : Nat) (x : Str) (ps : List Str) (c : List Val → M Val) : Prop := FOk P w K T mg base k (He.ga K x) (fdOf K x) ps c
section
variable {P : Program} {w : World} {K : PySem.W.Frag} {T : Tx} {mg : Str → Option Value} {base : Heap}
theorem fdOf_eq {x : Str} {oc : Value} {od : Option Addr} {fd : FuncData} {osl : Array (Option Value)} (l : K.lookup (He.ga K x) = some ⟨oc, od, .func fd, osl⟩) : fdOf K x = fd := by unfold fdOf; rw [l]
theorem dn_of {x : Str} {st : Stmt} {ps : List Str} {fd : FuncData} (F : FunD K x x (defArgs st) (defBody st) (defScope st) [] [] (He.ga K x) fd) (g : mg x = some (.ref (He.ga K x)))
    (h : ∀ (kV doc pm : Value) (an : Option Addr) (cdv ct : Value) (us : List Value), us.length = ps.length → bindArgs (PySem.W.fnOf x x (defArgs st) (defBody st) (defScope st) .none kV doc pm an cdv ct) ⟨us, []⟩ = pure (ps.zip us)) : Dn K mg x st ps := by
  have b : Binds K fd ps [] := F.bindsN h
  obtain ⟨oc, od, dV, kV, doc, pm, an, cdv, ct, osl, e, lk, hcd, hD, hK⟩ := F.ex
  have hfd := fdOf_eq lk
  rcases hD with ⟨_, rfl⟩ | ⟨z, _⟩
  · obtain ⟨c, rfl⟩ := He.codeIn_ref hcd
    have hc : He.codeOf K (x, none) = c := He.codeOf_eq (p := (x, none)) lk (by rw [e])
    refine ⟨⟨oc, od, kV, doc, pm, an, ct, osl, by rw [hfd, hc]; exact e, by rw [hfd]; exact lk, by rw [hc]; exact hcd⟩, ⟨⟨oc, od, kV, doc, pm, an, .ref c, ct, osl, by rw [hfd]; exact e, by rw [hfd]; exact lk, hcd⟩, F.kp⟩, g, by rw [hfd]; exact b⟩
  · exact absurd rfl z
/-- a def, its code object known -/
theorem fo {x : Str} {st : Stmt} {N ps : List Str} {k : Nat} {cb : CS} (D : Dn K mg x st ps) (S : FnScope N ps (defScope st))
    (hb : ∀ (A : Around) (outer : List Env) (s : Shared) (H : Hp) (E : XK), Cok (cxOf (L2.CX P w) P w K mg base N x (defScope st) (He.ga K x) (.ref (He.codeOf K (x, none))) A outer s H E) (fun cls d _ H => E cls d H) k →
      RSs (cxOf (L2.CX P w) P w K mg base N x (defScope st) (He.ga K x) (.ref (He.codeOf K (x, none))) A outer s H E) T (fun cls d _ H => E cls d H) (defBody st) cb) : FO P w K T mg base (k + 1) x ps (cDef N.length cb) := by
  obtain ⟨oc, od, kV, doc, pm, an, ct, osl, e, lk, hcd⟩ := D.ex
  unfold FO FOk
  rw [e] at lk ⊢
  refine fn_of lk hcd S (fun vs H Q E h => ?_) (fun A outer s H vs Q E hr h => ?_)
  · obtain ⟨m, h, as, _, _, hl, _⟩ := h
    exact hl
  · obtain ⟨m, h, as, Sm, r, hl, A1⟩ := h
    refine ⟨_, (hb A outer s H E (cok_fn S hr)).pss, m, h, _, Sm, start_rep (n := N.length) r, ?_⟩
    obtain ⟨o, h', e, q⟩ := A1
    unfold cDef at e
    cases hc : cb (as.map some ++ List.replicate (N.length - as.length) none) h with
    | none => rw [hc] at e; cases e
    | some p =>
      obtain ⟨f1, h1⟩ := p
      rw [hc] at e
      cases f1 with
      | nx σ1 =>
        cases e
        refine ⟨_, _, rfl, fun m' H' σ' E' S' R' => ?_⟩
        obtain ⟨m2, E2, S2, r2⟩ := shut_ok Sm E' S' (v := .d .none) (w := .non) .non
        exact q m2 H' E2 S2 _ r2
      | rt v1 =>
        cases e
        refine ⟨_, _, rfl, fun m' H' v E' S' R' => ?_⟩
        obtain ⟨m2, E2, S2, r2⟩ := shut_ok Sm E' S' R'
        exact q m2 H' E2 S2 _ r2
      | ex s1 n fs =>
        cases e
        exact ⟨_, _, rfl, fun m' H' σ' cls d E' S' R' z => q m' H' cls d E' S' z⟩
      | bk _ => cases e
      | ct _ => cases e
/-- nothing is promised of it -/
theorem fo_none {x : Str} {ps : List Str} {k : Nat} : FO P w K T mg base k x ps (fun _ _ => none) := by
  refine ⟨fun vs H Q E h => ?_, fun A outer s H args us vs Q E _ _ _ _ h => ?_⟩
  · obtain ⟨m, h, as, _, _, hl, _⟩ := h
    exact hl
  · obtain ⟨m, h, as, _, _, _, _, _, e, _⟩ := h
    cases e
theorem fo_mono {x : Str} {ps : List Str} {j k : Nat} {c : List Val → M Val} (h : FO P w K T mg base j x ps c) (hk : j ≤ k) : FO P w K T mg base k x ps c := FnOk.mono h hk
/-- code objects whose tables the text has -/
def TabsOk (K : PySem.W.Frag) (mg : Str → Option Value) (base : Heap) (T : Tx) (x : Str) : Prop := ∃ P, GxR.TabB base mg (He.codeOf K (x, none)) P ∧ P ∈ T.tabs
theorem tbOk {N : List Str} {x : Str} {scope : Scope} {A : Around} {outer : List Env} {s : Shared} {H : Hp} {E : XK} (h : TabsOk K mg base T x) :
    TbOk (cxOf (L2.CX P w) P w K mg base N x scope (He.ga K x) (.ref (He.codeOf K (x, none))) A outer s H E) T := by
  obtain ⟨Pt, h1, h2⟩ := h
  exact ⟨⟨_, Pt, h1, rfl, h2⟩⟩
theorem law_spT {cs : List (Addr × Addr)} {c : List Val → M Val} (hT : T.tabs = cs.map (·.2)) (hc : ∀ ns : List Int, ns.length ≤ 63 → ∃ h', c [.fl (ns.map .int)] [] = some (.ok (.d (.bool true)), h')) {H : Hp} {a : Addr} {ns : List Int} (hl : ns.length ≤ 63)
    (hC : ∀ p ∈ cs, H p.2 = some (.tbl #[])) (hS : SqL K H a (ns.map V.int)) : spF K T 1 c [.ref a] H (fun v _ => v = .bl true) fun _ _ _ => False := by
  obtain ⟨h', e⟩ := hc ns hl
  refine ⟨[], [], [.fl (ns.map .int)], ⟨.nil, fun l l' a e => by simp at e, fun P hP => ?_⟩, .cons ⟨a, _, rfl, hS.elim (fun q => .inl ⟨q, by simp⟩) .inr, rpl_ints ns⟩ .nil, rfl, _, _, e, fun m' H' E S v r => ?_⟩
  · rw [hT] at hP
    obtain ⟨p, hp, ep⟩ := List.mem_map.mp hP
    rw [← ep]
    exact ⟨#[], hC p hp, True.intro⟩
  · cases (show Rp K m' H' (.bool true) v from r)
    rfl
end
theorem law_at {l : PySem.W.OpenLaw} {w : World} {K : PySem.W.Frag} {mg : Str → Option Value} {fa : Addr} {h : Heap} {fas : List He.Fa} {fn : List He.DefD} {tf : List He.Defn} {c : List Val → M Val} {k : Nat} {st : Stmt} {fd : FuncData}
    (S : He.SaysX fas fn [] tf (fun _ => true) w h K) (KX : K.In h) (hmg : mg "law" = some (.ref fa)) (g : mg "law" = some (.ref (He.ga K "law")))
    (D : FunD K "law" "law" (defArgs st) (defBody st) (defScope st) [] [] (He.ga K "law") fd)
    (hb : ∀ (kV doc pm : Value) (an : Option Addr) (cdv ct : Value) (us : List Value), us.length = ["script"].length → bindArgs (PySem.W.fnOf "law" "law" (defArgs st) (defBody st) (defScope st) .none kV doc pm an cdv ct) ⟨us, []⟩ = pure ((["script"] : List Str).zip us))
    (F : ∀ (base : Heap) (T : Tx), K.In base → base.Ns mainGlobals mg → (∀ p ∈ tf, GxR.TabB base mg (He.cT K p).1 (He.cT K p).2 ∧ (He.cT K p).2 ∈ T.tabs) → FO l.prog w K T mg base k "law" ["script"] c)
    (math : ∀ ns : List Int, ns.length ≤ 63 → ∃ h', c [.fl (ns.map .int)] [] = some (.ok (.d (.bool true)), h')) : LamX.LawAtS l w K (L2.CX l.prog w) k 63 "script" mg fa h := by
  have efa : fa = He.ga K "law" := by
    have z := hmg.symm.trans g
    exact Value.ref.inj (Option.some.inj z)
  subst efa
  obtain ⟨oc, od, dV, kV, doc, pm, an, cdv, ct, osl, e, lk, _⟩ := id D.ex
  have hfd := fdOf_eq lk
  refine ⟨fdOf K "law", tf.map (He.cT K), spF K ⟨(tf.map (He.cT K)).map (·.2), fun _ _ _ _ _ _ => False⟩ 1 c, fun p hp => ?_, fun p hp => ?_, fun p hp => ?_, fun s u => ?_, fun H a ns hl _ hC hS => ?_, fun base hB hN hT => ?_⟩
  · obtain ⟨q, hq, eq⟩ := List.mem_map.mp hp
    rw [← eq]
    exact S.empty q hq
  · obtain ⟨q, hq, eq⟩ := List.mem_map.mp hp
    rw [← eq]
    exact S.out q hq
  · obtain ⟨q, hq, eq⟩ := List.mem_map.mp hp
    rw [← eq]
    exact PySem.W.codeHd_of_K KX (S.hd q hq)
  · rw [hfd]
    exact FunD.bindsA (ps := ["script"]) D hb s [u] rfl
  · exact law_spT (cs := tf.map (He.cT K)) rfl math hl hC hS
  · refine F base ⟨(tf.map (He.cT K)).map (·.2), fun _ _ _ _ _ _ => False⟩ hB hN fun p hp => ?_
    have m : He.cT K p ∈ tf.map (He.cT K) := List.mem_map.mpr ⟨p, hp, rfl⟩
    have t := hT _ m
    exact ⟨⟨t.code, t.bm, t.gP⟩, List.mem_map.mpr ⟨_, m, rfl⟩⟩
end MV
namespace MV
open PySem PySem.Spec PyProof.Rows L2

section
variable {X : Cx} {T : Tx} {W : WX} {k : Nat} {e a b c : Expr} {pos : Pos} {ce : CE}
/-! ### name op= e, over ints -/
def gI2 (f : Int → Int → Int) : G2 := gD (dI yes2 fun i j => .int (f i j))
def sAug (i : Nat) (f : Int → Int → Int) (ce : CE) : CS := fun σ h => match σ[i]? with
  | some (some a) => sBy ce (fun y σ h => match gI2 f a y h with
    | some (z, h') => some (.nx (σ.set i (some z)), h')
    | none => none) σ h
  | _ => none
theorem rs_augI {i : Nat} {x : Str} {op : Operator} {f : Int → Int → Int} {pos' : Pos} (nd : X.N.Nodup) (ho : PIp X op (ipI f)) (he : RE X T W e ce) (hi : X.N[i]? = some x := by rfl) (hx : Loc X.env.scope x := by first | exact Or.inl rfl | exact Or.inr rfl)
    (hf : X.fn x = true ∨ X.env.scope.names.lookup x = some .local := by first | exact .inl rfl | exact .inr rfl) : RS X T W (.AugAssign (.Name x pos') op e pos) (sAug i f ce) := ⟨PS.imp (ps_aug nd hi hx he.pe ho hf) fun D σ H h => by
  obtain ⟨m, h0, σa, S, RS, fl, h', ee, q⟩ := h
  unfold sAug at ee
  cases hs : σa[i]? with
  | none => rw [hs] at ee; cases ee
  | some o =>
    cases o with
    | none => rw [hs] at ee; cases ee
    | some a =>
      rw [hs] at ee
      obtain ⟨v, ev, rv⟩ := RS.get hs
      refine ⟨v, ev, ?_⟩
      have h2 : tS X T W (sBy ce (fun y σ h => match gI2 f a y h with
        | some (z, h') => some (.nx (σ.set i (some z)), h')
        | none => none)) D σ H := ⟨m, h0, σa, S, RS, fl, h', ee, q⟩
      obtain ⟨fl', h'', e2, q2⟩ : AftS X.K T W m H (sBy ce (fun y σ h => match gI2 f a y h with
        | some (z, h') => some (.nx (σ.set i (some z)), h')
        | none => none) σa h0) D := ⟨fl, h', ee, q⟩
      have A : AftS X.K T W m H (sBy ce (fun y σ h => match gI2 f a y h with
        | some (z, h') => some (.nx (σ.set i (some z)), h')
        | none => none) σa h0) D := ⟨fl', h'', e2, q2⟩
      refine aft_by S RS A fun m1 h1 H1 y w E S1 r1 A1 => ?_
      obtain ⟨f1, h3, e3, q3⟩ := A1
      cases hg : gI2 f a y h1 with
      | none => rw [hg] at e3; cases e3
      | some p =>
        obtain ⟨z, h4⟩ := p
        rw [hg] at e3; cases e3
        obtain ⟨d1, d2, d3, e4, e5, e6, rfl, rfl⟩ := gD_some hg
        obtain ⟨i1, j1, rfl, rfl, _, rfl⟩ := dI_some e6
        cases view_int S1 (rv.mono E) e4
        cases view_int S1 r1 e5
        exact ⟨i1, j1, rfl, rfl, q3 m1 H1 _ (Ext.refl _ _) S1 ((RS.mono E).set i (.int _))⟩⟩
/-! ### *e in a display: a tuple or a frozen list -/
def unSeq : PyData → Option (List Val)
  | .tuple ds => some (ds.map .d)
  | .list ds => some (ds.map .d)
  | _ => none
def gUnSeq (x : Val) : O (List Val) := fun h => match viewD x h with
  | some d => (unSeq d).map fun xs => (xs, h)
  | none => none
def cStar (a : CE) (r : CA) : CA := fun σ => bnd (a σ) fun x => bnd (lift (gUnSeq x)) fun xs => bnd (r σ) fun ys => ret (xs ++ ys)
variable {es : List Expr} {ca : CE} {cr : CA} {p : Pos}
theorem gUnSeq_some {x : Val} {h h' : AH} {xs : List Val} (e : gUnSeq x h = some (xs, h')) : h' = h ∧ ∃ ds, xs = ds.map .d ∧ (viewD x h = some (.tuple ds) ∨ viewD x h = some (.list ds)) := by
  unfold gUnSeq at e
  cases hv : viewD x h with
  | none => rw [hv] at e; cases e
  | some d =>
    rw [hv] at e
    cases d <;> first | (cases e; done) | skip
    all_goals first
      | (cases e; exact ⟨rfl, _, rfl, .inl rfl⟩)
      | (cases e; exact ⟨rfl, _, rfl, .inr rfl⟩)
      | cases e
theorem ra_star (ha : RE X T W e ca) (hr : RA X T W es cr) (hs : starEach (.Starred e p :: es) X.env = (true, eval e X.env) :: starEach es X.env := by rfl) : RA X T W (.Starred e p :: es) (cStar ca cr) :=
  ⟨PA.imp (StX.pa_star ha.pe hr.pa hs) fun σ H Q h => by
    refine tAny_bind h fun m h1 H1 σa x v S RS r A => ?_
    obtain ⟨xs, h2, e, q⟩ := A.bind.lifted
    obtain ⟨rfl, ds, rfl, hv⟩ := gUnSeq_some e
    have q0 := q m H1 (Ext.refl _ _) S
    rcases hv with hv | hv
    · obtain ⟨a, vs, rfl, hz, rl⟩ := view_tup S r hv
      refine ⟨a, vs, rfl, .inl hz.sq, ⟨m, _, σa, S, RS, ?_⟩⟩
      refine q0.bind.mono fun m2 h2 H2 ys E2 S2 A2 ws rs => ?_
      exact Aft.ret_ S2 A2 (vs ++ ws) (Paired.app (RepVs.mono E2 rl.vals) rs)
    · obtain ⟨a, vs, rfl, hz, rl⟩ := view_list S r hv
      refine ⟨a, vs, rfl, .inr hz, ⟨m, _, σa, S, RS, ?_⟩⟩
      refine q0.bind.mono fun m2 h2 H2 ys E2 S2 A2 ws rs => ?_
      exact Aft.ret_ S2 A2 (vs ++ ws) (Paired.app (RepVs.mono E2 rl.vals) rs)⟩
end
section
variable {X : Cx} {T : Tx} {W : WX}
/-! ### max, min of a list of ints; max of two -/
def maxL : List Int → Int
  | [] => 0
  | [a] => a
  | a :: b :: l => let r := maxL (b :: l); if a < r then r else a
def minL : List Int → Int
  | [] => 0
  | [a] => a
  | a :: b :: l => let r := minL (b :: l); if r < a then r else a
theorem maxL_spec : ∀ {l : List Int}, l ≠ [] → maxL l ∈ l ∧ ∀ y, y ∈ l → y ≤ maxL l
  | [], h => absurd rfl h
  | [a], _ => ⟨List.mem_singleton.2 rfl, fun y hy => by rw [List.mem_singleton.1 hy]; exact Int.le_refl _⟩
  | a :: b :: l, _ => by
    obtain ⟨h1, h2⟩ := maxL_spec (l := b :: l) (List.cons_ne_nil _ _)
    show (if a < maxL (b :: l) then maxL (b :: l) else a) ∈ _ ∧ ∀ y, y ∈ a :: b :: l → y ≤ if a < maxL (b :: l) then maxL (b :: l) else a
    by_cases h : a < maxL (b :: l)
    · rw [if_pos h]
      refine ⟨List.mem_cons_of_mem _ h1, fun y hy => ?_⟩
      rcases List.mem_cons.1 hy with rfl | hy
      · omega
      · exact h2 y hy
    · rw [if_neg h]
      refine ⟨List.mem_cons_self, fun y hy => ?_⟩
      rcases List.mem_cons.1 hy with rfl | hy
      · omega
      · have := h2 y hy; omega
theorem minL_spec : ∀ {l : List Int}, l ≠ [] → minL l ∈ l ∧ ∀ y, y ∈ l → minL l ≤ y
  | [], h => absurd rfl h
  | [a], _ => ⟨List.mem_singleton.2 rfl, fun y hy => by rw [List.mem_singleton.1 hy]; exact Int.le_refl _⟩
  | a :: b :: l, _ => by
    obtain ⟨h1, h2⟩ := minL_spec (l := b :: l) (List.cons_ne_nil _ _)
    show (if minL (b :: l) < a then minL (b :: l) else a) ∈ _ ∧ ∀ y, y ∈ a :: b :: l → (if minL (b :: l) < a then minL (b :: l) else a) ≤ y
    by_cases h : minL (b :: l) < a
    · rw [if_pos h]
      refine ⟨List.mem_cons_of_mem _ h1, fun y hy => ?_⟩
      rcases List.mem_cons.1 hy with rfl | hy
      · omega
      · exact h2 y hy
    · rw [if_neg h]
      refine ⟨List.mem_cons_self, fun y hy => ?_⟩
      rcases List.mem_cons.1 hy with rfl | hy
      · omega
      · have := h2 y hy; omega
def fMaxL : PyData → Option PyData
  | .list ds => match intsOf ds with
    | some (a :: l) => some (.int (maxL (a :: l)))
    | _ => none
  | _ => none
def fMinL : PyData → Option PyData
  | .list ds => match intsOf ds with
    | some (a :: l) => some (.int (minL (a :: l)))
    | _ => none
  | _ => none
theorem k_maxL (hc : X.calm = true) : CallR X (.builtin "max") (rA X.K T (g1 fMaxL)) := cr1 fun pins s σ H v u Q m h0 x d z I ru S rx e1 e2 q => by
  unfold fMaxL at e2
  split at e2
  · rename_i ds
    split at e2
    · rename_i a0 l hn
      cases e2
      obtain ⟨a, vs, rfl, hs, t⟩ := view_list S rx e1
      rw [intsOf_some hn] at t
      rw [rpl_intV t] at hs
      refine cr_max hc pins s σ H [_] [u] Q I (.cons ru .nil) ⟨a, a0 :: l, rfl, hs, Nat.succ_pos _, fun mm hm hy => ?_⟩
      obtain ⟨p1, p2⟩ := maxL_spec (l := a0 :: l) (List.cons_ne_nil _ _)
      have : mm = maxL (a0 :: l) := Int.le_antisymm (p2 _ hm) (hy _ p1)
      rw [this]
      exact q m H (Ext.refl _ _) S _ (.int _)
    · cases e2
  · cases e2
theorem k_minL (hc : X.calm = true) : CallR X (.builtin "min") (rA X.K T (g1 fMinL)) := cr1 fun pins s σ H v u Q m h0 x d z I ru S rx e1 e2 q => by
  unfold fMinL at e2
  split at e2
  · rename_i ds
    split at e2
    · rename_i a0 l hn
      cases e2
      obtain ⟨a, vs, rfl, hs, t⟩ := view_list S rx e1
      rw [intsOf_some hn] at t
      rw [rpl_intV t] at hs
      refine cr_min hc pins s σ H [_] [u] Q I (.cons ru .nil) ⟨a, a0 :: l, rfl, hs, Nat.succ_pos _, fun mm hm hy => ?_⟩
      obtain ⟨p1, p2⟩ := minL_spec (l := a0 :: l) (List.cons_ne_nil _ _)
      have : mm = minL (a0 :: l) := Int.le_antisymm (hy _ p1) (p2 _ hm)
      rw [this]
      exact q m H (Ext.refl _ _) S _ (.int _)
    · cases e2
  · cases e2
def fMax2 : PyData → PyData → Option PyData
  | .int i, .int j => some (.int (if j > i then j else i))
  | _, _ => none
theorem k_max2 (hc : X.calm = true) : CallR X (.builtin "max") (rA X.K T (g2 fMax2)) := by
  intro pins s σ H vs us Q I r hh
  obtain ⟨m, h0, xs, z, h', S, rv, e, q⟩ := hh
  obtain ⟨x, y, a, b, c, rfl, e1, e2, e3, rfl, rfl⟩ := g2_some e
  unfold fMax2 at e3
  split at e3
  · cases e3
    cases rv with
    | cons r1 rv =>
      cases rv with
      | cons r2 rv =>
        cases rv
        cases view_int S r1 e1
        cases view_int S r2 e2
        exact call_max2 hc pins s σ H _ us Q I r ⟨_, _, rfl, q m H (Ext.refl _ _) S _ (.int _)⟩
  · cases e3
end
section
variable {X : Cx} {T : Tx} {W : WX} {e o : Expr} {es : List Expr} {co : CE} {cr : CA} {cpos apos : Pos}
/-! ### list.pop(): the last one; list.extend -/
def cMt0 (ty : Val → AH → Bool) (g : GM) (o : CE) : CE := fun σ => bnd (o σ) fun x => lift fun h => if ty x h = true then g x [] h else none
theorem tE_mt0 {ty : Val → AH → Bool} {g : GM} {Ty : String} {σ : L2.St} {H : Hp} {Q : VK} (hty : ∀ m h H x v, Sim X.K T m h H → RepV X.K m H x v → ty x h = true → tyV X.K Ty v H) (h : tE X T W (cMt0 ty g co) σ H Q) :
    tBM0 X.K Ty (rM X.K T g) (tE X T W co) σ H Q := by
  refine tAny_bind h fun m h1 H1 σa x v S RS r A => ?_
  obtain ⟨z, h', e, q⟩ := A.lifted
  by_cases hk : ty x h1 = true
  · rw [if_pos hk] at e
    exact ⟨hty m h1 H1 x v S r hk, m, h1, x, [], z, h', S, r, .nil, e, fun m' H' E S v rv => q m' H' E S v rv⟩
  · rw [if_neg hk] at e; cases e
def gPop : GM := fun o xs h => match o, xs with
  | .ref l, [] => match h[l]? with
    | some (.lst ys) => match ys[ys.length - 1]? with
      | some y => some (y, h.set l (.lst ys.dropLast))
      | none => none
    | _ => none
  | _, _ => none
theorem m_pop : MtM X "list.pop" (rM X.K T gPop) := by
  intro pins s σ H x vs v us Q I rx rv h
  refine mt_pop pins s σ H x vs v us Q I rx rv ?_
  obtain ⟨m, h0, o, xs, z, h', S, ro, rs, e, q⟩ := h
  unfold gPop at e
  split at e
  · rename_i l
    cases hl : h0[l]? with
    | none => simp only [hl] at e; cases e
    | some cc =>
      simp only [hl] at e
      cases cc with
      | lst ys =>
        simp only at e
        cases hy : ys[ys.length - 1]? with
        | none => rw [hy] at e; cases e
        | some y =>
          rw [hy] at e; cases e
          obtain ⟨a, ws, rfl, em, ha, hr⟩ := cell_lst S ro hl
          cases rs
          obtain ⟨w, hw, rw'⟩ := Paired.at_ hr hy
          have hd : Paired (RepV X.K m H) ys.dropLast ws.dropLast := by
            rw [List.dropLast_eq_take, List.dropLast_eq_take, ← Paired.len hr]
            exact Paired.takeP _ hr
          refine ⟨a, ws, w, rfl, rfl, ha, by rw [← Paired.len hr]; exact hw, q m _ (Ext.store em _ ⟨_, ha, (fun _ _ z => nomatch z), (fun _ z => nomatch z)⟩) (S.store em (.lst upd_same (RepVs.mono (Ext.store em _ ⟨_, ha, (fun _ _ z => nomatch z), (fun _ z => nomatch z)⟩) hd))) _ (rw'.mono (Ext.store em _ ⟨_, ha, (fun _ _ z => nomatch z), (fun _ z => nomatch z)⟩))⟩
      | _ => cases e
  · cases e
theorem re_pop (ho : RE X T W o co) (hbase : attributeBase o "pop" X.env (eval o X.env) = eval o X.env := by rfl) (hline : (apos.endLine == cpos.line) = true := by rfl) :
    RE X T W (.Call (.Attribute o "pop" apos) [] [] cpos) (cMt0 isCl gPop co) :=
  ⟨PE.imp (pe_bm0 PySem.F.plainAttrs_list PySem.F.slot_list_pop PySem.F.type_list_pop m_pop ho.pe hbase hline) fun σ H Q h => tE_mt0 (fun m h H x v S r e => ty_cl S r e) h⟩
end
end MV
/-! objects of the program's own classes: fields read and stored, methods called, objects made -/
namespace MV
open PySem PySem.Spec PyProof.Rows L2

section
variable {K : PySem.W.Frag} {T : Tx} {m : MM} {h : AH} {H : Hp}
theorem cell_ins {l : Nat} {v : V} {cls : Str} {fs : List (Str × Val)} (S : Sim K T m h H) (r : RepV K m H (.ref l) v) (e : h[l]? = some (.ins cls fs)) : ∃ a dx gs, v = .ref a ∧ m[l]? = some (some a) ∧ H a = some (.ins (He.ga K cls) dx gs) ∧ KvR K m H fs gs := by
  obtain ⟨y, e1, ok⟩ := Paired.at_ S.cell e
  cases ok with
  | ins ha hr => exact ⟨_, _, _, r.2 _ e1, e1, ha, hr⟩
theorem KvR.lookS {f : Str} {x : Val} : ∀ {fs : List (Str × Val)} {gs : List (Str × V)}, KvR K m H fs gs → fs.lookup f = some x → ∃ w, gs.lookup f = some w ∧ RepV K m H x w
  | _, _, .nil, e => by cases e
  | (g, y) :: fs, (g', w) :: gs, .cons ⟨q, r⟩ t, e => by
    cases (show g = g' from q)
    rw [List.lookup_cons] at e ⊢
    cases hb : f == g with
    | true => rw [hb] at e; cases e; exact ⟨w, rfl, r⟩
    | false => rw [hb] at e; exact KvR.lookS t e
theorem KvR.lookN {f : Str} : ∀ {fs : List (Str × Val)} {gs : List (Str × V)}, KvR K m H fs gs → fs.lookup f = none → gs.lookup f = none
  | _, _, .nil, e => rfl
  | (g, y) :: fs, (g', w) :: gs, .cons ⟨q, r⟩ t, e => by
    cases (show g = g' from q)
    rw [List.lookup_cons] at e ⊢
    cases hb : f == g with
    | true => rw [hb] at e; cases e
    | false => rw [hb] at e; exact KvR.lookN t e
def putFA (f : Str) (v : Val) : List (Str × Val) → List (Str × Val)
  | [] => [(f, v)]
  | (g, x) :: r => if g = f then (g, v) :: r else (g, x) :: putFA f v r
theorem KvR.putS {f : Str} {v : Val} {w : V} (rv : RepV K m H v w) : ∀ {fs : List (Str × Val)} {gs : List (Str × V)}, KvR K m H fs gs → KvR K m H (putFA f v fs) (putF f w gs)
  | _, _, .nil => .cons ⟨rfl, rv⟩ .nil
  | (g, y) :: fs, (g', u) :: gs, .cons ⟨q, r⟩ t => by
    cases (show g = g' from q)
    unfold putFA putF
    by_cases hg : g = f
    · rw [if_pos hg, if_pos hg]; exact .cons ⟨rfl, rv⟩ t
    · rw [if_neg hg, if_neg hg]; exact .cons ⟨rfl, r⟩ (KvR.putS rv t)
end
section
variable {X : Cx} {T : Tx} {W : WX} {j k : Nat} {e o : Expr} {es : List Expr} {pos p apos tpos : Pos} {ce co : CE} {ca : CA} {cls f x mm : Str} {fd : FuncData} {ps : List Str} {c : List Val → M Val}
/-! ### e.f -/
def gFld (cls f : Str) (x : Val) : O Val := fun h => match x with
  | .ref l => match h[l]? with
    | some (.ins c fs) => if c = cls then (fs.lookup f).map fun y => (y, h) else none
    | _ => none
  | _ => none
theorem gFld_some {x y : Val} {h h' : AH} (e : gFld cls f x h = some (y, h')) : h' = h ∧ ∃ l fs, x = .ref l ∧ h[l]? = some (.ins cls fs) ∧ fs.lookup f = some y := by
  unfold gFld at e
  split at e
  · rename_i l
    split at e
    · rename_i c fs hl
      by_cases hc : c = cls
      · rw [if_pos hc] at e
        obtain ⟨z, ez, e2⟩ := map_some e
        cases e2
        subst hc
        exact ⟨rfl, l, fs, rfl, hl, ez⟩
      · rw [if_neg hc] at e; cases e
    · cases e
  · cases e
def cFld (cls f : Str) (e : CE) : CE := fun σ => bnd (e σ) fun x => lift (gFld cls f x)
theorem re_fld (hc : Cls X.K (He.ga X.K cls)) (hn : NoAttr X.K (He.ga X.K cls) f) (he : RE X T W e ce) (hb : attributeBase e f X.env (eval e X.env) = eval e X.env := by rfl) : RE X T W (.Attribute e f pos) (cFld cls f ce) :=
  ⟨PE.imp (pe_fld he.pe hb) fun σ H Q h => by
    refine tAny_bind h fun m h1 H1 σa x v S RS r A => ?_
    obtain ⟨y, h2, e, q⟩ := A.lifted
    obtain ⟨rfl, l, fs, rfl, hl, hf⟩ := gFld_some e
    obtain ⟨a, dx, gs, rfl, em, ha, hr⟩ := cell_ins S r hl
    obtain ⟨w, hw, rw'⟩ := hr.lookS hf
    exact ⟨a, _, dx, gs, w, rfl, ha, hc, hn, hw, q m H1 (Ext.refl _ _) S w rw'⟩⟩
/-! ### e.f = value -/
def gSetF (cls f : Str) (x v : Val) (h : AH) : Option AH := match x with
  | .ref l => match h[l]? with
    | some (.ins c fs) => if c = cls ∧ fs.length < 1000 then some (h.set l (.ins c (putFA f v fs))) else none
    | _ => none
  | _ => none
def sFldS (cls f : Str) (co ce : CE) : CS := sBy ce fun v => sBy co fun o σ h => match gSetF cls f o v h with
  | some h' => some (.nx σ, h')
  | none => none
theorem rs_fld (hc : Cls X.K (He.ga X.K cls)) (hn : NoAttr X.K (He.ga X.K cls) f) (ho : RE X T W o co) (he : RE X T W e ce) (hs : swapsWith e (some (.Attribute o f p)) pos.line X.env = pure false := by rfl) : RS X T W (.Assign [.Attribute o f p] e pos) (sFldS cls f co ce) := ⟨PS.imp (ps_fld ho.pe he.pe hs) fun D σ H h => by
  refine by_tE h fun m h1 H1 σa v w S RS rv A => ?_
  refine aft_by S RS A fun m2 h2 H2 y u E2 S2 r2 A2 => ?_
  obtain ⟨fl, h', e, q⟩ := A2
  cases hg : gSetF cls f y v h2 with
  | none => rw [hg] at e; cases e
  | some h4 =>
    rw [hg] at e; cases e
    unfold gSetF at hg
    split at hg
    · rename_i l
      split at hg
      · rename_i c0 fs hl
        by_cases hcc : c0 = cls ∧ fs.length < 1000
        · rw [if_pos hcc] at hg; cases hg
          obtain ⟨rfl, hz⟩ := hcc
          obtain ⟨a, dx, gs, rfl, em, ha, hr⟩ := cell_ins S2 r2 hl
          have E := Ext.store (H := H2) em (.ins (He.ga X.K c0) dx (putF f w gs)) ⟨_, ha, (fun _ _ z => nomatch z), (fun _ z => nomatch z)⟩
          have rv2 : RepV X.K m2 H2 v w := rv.mono E2
          refine ⟨a, _, dx, gs, rfl, ha, hc, hn, by rw [← Paired.len hr]; exact hz, ?_⟩
          exact q m2 _ _ E (S2.store em (.ins upd_same (KvR.mono E (hr.putS rv2)))) ((RS.mono E2).mono E)
        · rw [if_neg hcc] at hg; cases hg
      · cases hg
    · cases hg⟩
end
/-! ### o.m(..), C(..): the callee's exceptions at the slots -/
section
variable {X : Cx} {CX : CXT} {k : Nat} {f C : Addr} {fd : FuncData} {ps : List Str} {sp : Sp} {E : L2.St → XK} {m x : Str} {p pos apos : Pos} {e o : Expr} {es : List Expr} {ta : TE} {t : TA}
def tMethW (C : Addr) (m : Str) (sp : Sp) (E : L2.St → XK) (ta : TE) (t : TA) : TE := fun σ H Q => ta σ H fun x H1 => ∃ a dx fs, x = .ref a ∧ H1 a = some (.ins C dx fs) ∧ fs.lookup m = none ∧
  t σ H1 fun vs H2 => sp (x :: vs) H2 Q (E σ)
theorem pe_methW {pl : Sem Bool} (he : PE X o ta) (c : Cls X.K C) (hm : Meth X.K C m f) (F : FnOk X.prog X.w X.K X.mg X.base CX k f fd ps sp) (hr : Room k X.A) (hb : Binds X.K fd ps []) (hx : ∀ σ, PassesAt CX X σ (E σ)) (ha : PA X (e :: es) t)
    (hst : starEach (e :: es) X.env = (false, eval e X.env) :: starEach es X.env := by rfl) (hpl : (backTo pos (starEach es X.env)).any (·.1) = false := by rfl)
    (ht : eval (.Call (.Attribute o m apos) (e :: es) [] pos) X.env = (do
      let ov ← eval o X.env
      standAt apos.atName
      let (f, first) ← holding [ov] (getMethod ov m pl)
      callWith pos f first (backTo pos (starEach (e :: es) X.env)) (backToKw pos (keywordEach [] X.env))) := by rfl) :
    PE X (.Call (.Attribute o m apos) (e :: es) [] pos) (tMethW C m sp E ta t) := by
  refine ⟨fun pins s σ H Q I h => ?_⟩
  refine PySem.W.methodCall_KW (pl := pl) (thn (he.run pins s σ H _ I h) fun u s1 ⟨x, H1, I1, rx, a, dx, fs, ex, ea, l, q⟩ => ?_) ht
  subst ex
  obtain rfl : u = Value.ref a := rx
  refine getmeth_ok I1 ea c hm l ?_
  refine PySem.W.callWith_K (first := [.ref a]) (h₀ := X.base) I.ok.mod.kin hm.kp (thn (ha.run pos pins s1 σ H1 _ I1 q) fun us s2 ⟨vs, H2, I2, r, q2⟩ => ⟨I2.kIn, ?_⟩) hst hpl
  exact run_fnS (us := .ref a :: us) (vs := .ref a :: vs) F hr hb (hx σ) I2 (.cons rfl r) q2
def tMakeW (C : Addr) (sp : Sp) (E : L2.St → XK) (t : TA) : TE := fun σ H Q => t σ H fun vs H1 => ∀ x dx, H1 x = none → H1 dx = none → dx ≠ x →
  sp (.ref x :: vs) (upd (upd H1 dx (.own x)) x (.ins C dx [])) (fun v H2 => v = .non ∧ Q (.ref x) H2) (E σ)
theorem run_makeW {pins : List (Addr × Obj)} {σ : L2.St} {H : Hp} {s : Shared} {Q : VK} {us : List Value} {vs : List V} (M : Mk X.K C f) (F : FnOk X.prog X.w X.K X.mg X.base CX k f fd ps sp) (hr : Room (k + 1) X.A) (hb : Binds X.K fd ps [])
    (hx : PassesAt CX X σ (E σ)) (I : Inv X pins σ H s) (r : Vals vs us)
    (h : ∀ x dx, H x = none → H dx = none → dx ≠ x → sp (.ref x :: vs) (upd (upd H dx (.own x)) x (.ins C dx [])) (fun v H2 => v = .non ∧ Q (.ref x) H2) (E σ)) :
    wpAny (model X.prog X.w) X.A (call (.ref C) us) (EP X pins σ Q) X.xe s := by
  have hq := h (s.heap.objs.size + 1) s.heap.objs.size (I.hok.fresh (Nat.le_succ _)) (I.hok.fresh (Nat.le_refl _)) (Nat.ne_of_lt (Nat.lt_succ_self _))
  have I2 := Inv.made (C := C) I
  have r2 : Vals (V.ref (s.heap.objs.size + 1) :: vs) (Value.ref (s.heap.objs.size + 1) :: us) := .cons rfl r
  have hl : (Value.ref (s.heap.objs.size + 1) :: us).length = ps.length := by rw [← r2.length]; exact F.len _ _ _ _ hq
  refine wpAny_call (make_map (f := f) I.kIn M.makes M.init (beq_iff_eq.mp M.fn) (codeAny_mono (F.run _ X.stack _ _ ⟨Value.ref (s.heap.objs.size + 1) :: us, []⟩ (Value.ref (s.heap.objs.size + 1) :: us) _ _ (E σ) (hr.make C us [])
    (I2.env0.make C us []) (by
      have z := hb _ (Value.ref (s.heap.objs.size + 1) :: us) I2.kIn (by rw [List.append_nil]; exact hl)
      rw [List.append_nil] at z
      exact z) r2 hq) fun r s' hq' => ?_))
  cases r with
  | error e => exact hx pins _ _ e s' I2 hq'
  | ok fl =>
    cases fl with
    | ret u =>
      obtain ⟨v, H', I3, rv, ev, q3⟩ := I2.after hq'
      subst ev
      exact ⟨rv, ⟨V.ref (s.heap.objs.size + 1), H', I3, rfl, q3⟩⟩
    | next => exact False.elim hq'
    | brk => exact False.elim hq'
    | cont => exact False.elim hq'
theorem pe_makeW (M : Mk X.K C f) (F : FnOk X.prog X.w X.K X.mg X.base CX k f fd ps sp) (hr : Room (k + 1) X.A) (hg : Gl X x) (hm : X.mg x = some (.ref C)) (hb : Binds X.K fd ps []) (hx : ∀ σ, PassesAt CX X σ (E σ))
    (ha : PA X (e :: es) t) (hdb : (x == ("__debug__" : Str)) = false := by decide) (he : starEach (e :: es) X.env = (false, eval e X.env) :: starEach es X.env := by rfl) (hpl : (backTo pos (starEach es X.env)).any (·.1) = false := by rfl) :
    PE X (.Call (.Name x p) (e :: es) [] pos) (tMakeW C sp E t) := by
  refine ⟨fun pins s σ H Q I h => ?_⟩
  refine wpAny_Call_Name_kw (ld_glob I hg hm ?_ hdb)
  refine PySem.W.callWith_K (h₀ := X.base) I.ok.mod.kin M.kp (thn (ha.run pos pins s σ H _ I h) fun us s1 ⟨vs, H1, I1, r, q⟩ => ⟨I1.kIn, ?_⟩) he hpl
  exact run_makeW M F hr hb (hx σ) I1 r q
end
/-! ### their codes -/
def isIns (cls mm : Str) (x : Val) (h : AH) : Bool := match x with
  | .ref l => match h[l]? with
    | some (.ins c fs) => decide (c = cls) && (fs.lookup mm).isNone
    | _ => false
  | _ => false
def cMeth (cls mm : Str) (n : Nat) (c : List Val → M Val) (co : CE) (ca : CA) : CE := fun σ => bnd (co σ) fun x => bnd (lift fun h => if isIns cls mm x h = true then some ((), h) else none) fun _ => bnd (ca σ) fun xs => if (x :: xs).length = n then c (x :: xs) else fun _ => none
def cMake (cls : Str) (n : Nat) (c : List Val → M Val) (ca : CA) : CE := fun σ => bnd (ca σ) fun xs => fun h => if (Val.ref h.length :: xs).length = n then (match c (.ref h.length :: xs) (h ++ [.ins cls []]) with
  | some (.ok (.d .none), h') => some (.ok (.ref h.length), h')
  | some (.exn nm fs, h') => some (.exn nm fs, h')
  | _ => none) else none
/-- a method of a class, by names -/
structure Dm (K : PySem.W.Frag) (cls mm : Str) (f : Addr) (fd : FuncData) (ps : List Str) : Prop where
  cl : Cls K (He.ga K cls)
  m : Meth K (He.ga K cls) mm f
  b : Binds K fd ps []
section
variable {X : Cx} {T : Tx} {W : WX} {j k : Nat} {e o : Expr} {es : List Expr} {pos p apos : Pos} {co : CE} {ca : CA} {cls x mm : Str} {f : Addr} {fd : FuncData} {ps : List Str} {c : List Val → M Val}
theorem re_meth {n : Nat} {pl : Sem Bool} (D : Dm X.K cls mm f fd ps) (F : FOk X.prog X.w X.K T X.mg X.base j f fd ps c) (C : Cok X W k) (ho : RE X T W o co) (ha : RA X T W (e :: es) ca) (hk : j ≤ k := by decide) (hn : ps.length = n := by rfl)
    (hst : starEach (e :: es) X.env = (false, eval e X.env) :: starEach es X.env := by rfl) (hpl : (backTo pos (starEach es X.env)).any (·.1) = false := by rfl)
    (ht : eval (.Call (.Attribute o mm apos) (e :: es) [] pos) X.env = (do
      let ov ← eval o X.env
      standAt apos.atName
      let (f, first) ← holding [ov] (getMethod ov mm pl)
      callWith pos f first (backTo pos (starEach (e :: es) X.env)) (backToKw pos (keywordEach [] X.env))) := by rfl) :
    RE X T W (.Call (.Attribute o mm apos) (e :: es) [] pos) (cMeth cls mm n c co ca) :=
  ⟨PE.imp (pe_methW (pl := pl) ho.pe D.cl D.m F (C.room.mono hk) D.b (fun σ => passAt C.tk σ) ha.pa hst hpl ht) fun σ H Q h => by
    refine tAny_bind h fun m h1 H1 σa x v S RS r A => ?_
    obtain ⟨z, h', e, q⟩ := A.bind.lifted
    by_cases hi : isIns cls mm x h1 = true
    · rw [if_pos hi] at e; cases e
      unfold isIns at hi
      split at hi
      · rename_i l
        split at hi
        · rename_i c0 fs hl
          rw [Bool.and_eq_true] at hi
          obtain ⟨hcc, hnn⟩ := hi
          have hcc := of_decide_eq_true hcc
          subst hcc
          obtain ⟨a, dx, gs, rfl, em, hA, hr⟩ := cell_ins S r hl
          have hno : fs.lookup mm = none := by
            cases hz : fs.lookup mm with
            | none => rfl
            | some _ => rw [hz] at hnn; cases hnn
          refine ⟨a, dx, gs, rfl, hA, hr.lookN hno, m, _, σa, S, RS, (q m H1 (Ext.refl _ _) S).bind.mono fun m2 h2 H2 xs E2 S2 A2 vs rs => ?_⟩
          subst hn
          by_cases hl2 : (Val.ref l :: xs).length = ps.length
          · rw [if_pos hl2] at A2
            have rr : RepVs X.K m2 H2 (.ref l :: xs) (.ref a :: vs) := .cons (r.mono E2) rs
            exact ⟨m2, h2, _, S2, rr, (Paired.len rr).symm.trans hl2, A2⟩
          · rw [if_neg hl2] at A2
            obtain ⟨_, _, e, _⟩ := A2
            cases e
        · cases hi
      · cases hi
    · rw [if_neg hi] at e; cases e⟩
theorem re_make {n : Nat} (M0 : Mk X.K (He.ga X.K cls) f) (hm : X.mg cls = some (.ref (He.ga X.K cls))) (hb : Binds X.K fd ps []) (F : FOk X.prog X.w X.K T X.mg X.base j f fd ps c) (C : Cok X W k) (hg : Gl X cls) (ha : RA X T W (e :: es) ca) (hk : j + 1 ≤ k := by decide) (hn : ps.length = n := by rfl)
    (hdb : (cls == ("__debug__" : Str)) = false := by decide) (he : starEach (e :: es) X.env = (false, eval e X.env) :: starEach es X.env := by rfl) (hpl : (backTo pos (starEach es X.env)).any (·.1) = false := by rfl) :
    RE X T W (.Call (.Name cls p) (e :: es) [] pos) (cMake cls n c ca) :=
  ⟨PE.imp (pe_makeW M0 F (C.room.mono hk) hg hm hb (fun σ => passAt C.tk σ) ha.pa hdb he hpl) fun σ H Q h => by
    obtain ⟨m, h0, σa, S, RS, A⟩ := h
    refine ⟨m, h0, σa, S, RS, A.bind.mono fun m1 h1 H1 xs E1 S1 A1 vs rs x dx hx hdx hne => ?_⟩
    subst hn
    obtain ⟨r, h', e, q⟩ := A1
    by_cases hl : (Val.ref h1.length :: xs).length = ps.length
    · rw [if_pos hl] at e
      have Sd : Sim X.K T m1 h1 (upd H1 dx (.own x)) := S1.new hdx
      have Ed : Ext m1 H1 m1 (upd H1 dx (.own x)) := Ext.new S1 hdx
      have hx2 : upd H1 dx (.own x) x = none := by rw [upd_ne (Ne.symm hne)]; exact hx
      have Sp := Sd.pushC (c := .ins cls []) (u := .ins (He.ga X.K cls) dx []) hx2 (.ins upd_same .nil)
      have Ep : Ext m1 (upd H1 dx (.own x)) (m1 ++ [some x]) (upd (upd H1 dx (.own x)) x (.ins (He.ga X.K cls) dx [])) := Ext.push Sd hx2
      have rself : RepV X.K (m1 ++ [some x]) (upd (upd H1 dx (.own x)) x (.ins (He.ga X.K cls) dx [])) (.ref h1.length) (.ref x) := rep_push Sd
      have rr : RepVs X.K (m1 ++ [some x]) (upd (upd H1 dx (.own x)) x (.ins (He.ga X.K cls) dx [])) (.ref h1.length :: xs) (.ref x :: vs) := .cons rself (RepVs.mono (Ed.trans Ep) rs)
      refine ⟨m1 ++ [some x], h1 ++ [.ins cls []], _, Sp, rr, (Paired.len rr).symm.trans hl, ?_⟩
      cases hc : c (.ref h1.length :: xs) (h1 ++ [.ins cls []]) with
      | none => rw [hc] at e; cases e
      | some pr =>
        obtain ⟨o1, h2⟩ := pr
        rw [hc] at e
        cases o1 with
        | exn nm fs =>
          cases e
          exact ⟨_, _, rfl, fun m' H' cl d E S z => q m' H' cl d ((Ed.trans Ep).trans E) S z⟩
        | ok w =>
          cases w with
          | d dd =>
            cases dd with
            | none =>
              cases e
              refine ⟨_, _, rfl, fun m' H' E S v rv => ?_⟩
              cases (show Rp X.K m' H' .none v from rv)
              exact ⟨rfl, q m' H' ((Ed.trans Ep).trans E) S _ (rself.mono E)⟩
            | _ => cases e
          | _ => cases e
    · rw [if_neg hl] at e; cases e⟩
end
/-! ### defs by their keys: a def of the module, a method of a class -/
abbrev PK2 := Str × Option Str
def fdAt (K : PySem.W.Frag) (p : PK2) : FuncData := match K.lookup (He.fAd K p) with
  | some ⟨_, _, .func fd, _⟩ => fd
  | _ => PySem.W.fnOf p.1 p.1 { posonlyargs := [], args := [], vararg := none, kwonlyargs := [], kw_defaults := [], kwarg := none, defaults := [] } [] { kind := .function, names := [], isGenerator := false, isCoroutine := false, more := [] } .none .none .none .none none .none .none
structure Dk (K : PySem.W.Frag) (p : PK2) (x q : Str) (st : Stmt) (ps : List Str) : Prop where
  ex : ∃ (oc : Value) (od : Option Addr) (kV doc pm : Value) (an : Option Addr) (ct : Value) (osl : Array (Option Value)),
    fdAt K p = PySem.W.fnOf x q (defArgs st) (defBody st) (defScope st) .none kV doc pm an (.ref (He.codeOf K p)) ct ∧ K.lookup (He.fAd K p) = some ⟨oc, od, .func (fdAt K p), osl⟩ ∧ PySem.W.codeIn K (.ref (He.codeOf K p)) q = true
  b : Binds K (fdAt K p) ps []
abbrev FP (P : Program) (w : World) (K : PySem.W.Frag) (T : Tx) (mg : Str → Option Value) (base : Heap) (k : Nat) (p : PK2) (ps : List Str) (c : List Val → M Val) : Prop := FOk P w K T mg base k (He.fAd K p) (fdAt K p) ps c
section
variable {P : Program} {w : World} {K : PySem.W.Frag} {T : Tx} {mg : Str → Option Value} {base : Heap}
theorem fdAt_eq {p : PK2} {oc : Value} {od : Option Addr} {fd : FuncData} {osl : Array (Option Value)} (l : K.lookup (He.fAd K p) = some ⟨oc, od, .func fd, osl⟩) : fdAt K p = fd := by unfold fdAt; rw [l]
theorem dk_of {p : PK2} {x q : Str} {st : Stmt} {ps : List Str} {fd : FuncData} (F : FunD K x q (defArgs st) (defBody st) (defScope st) [] [] (He.fAd K p) fd)
    (h : ∀ (kV doc pm : Value) (an : Option Addr) (cdv ct : Value) (us : List Value), us.length = ps.length → bindArgs (PySem.W.fnOf x q (defArgs st) (defBody st) (defScope st) .none kV doc pm an cdv ct) ⟨us, []⟩ = pure (ps.zip us)) : Dk K p x q st ps := by
  have b : Binds K fd ps [] := F.bindsN h
  obtain ⟨oc, od, dV, kV, doc, pm, an, cdv, ct, osl, e, lk, hcd, hD, hK⟩ := F.ex
  have hfd := fdAt_eq lk
  rcases hD with ⟨_, rfl⟩ | ⟨z, _⟩
  · obtain ⟨c, rfl⟩ := He.codeIn_ref hcd
    have hc : He.codeOf K p = c := He.codeOf_eq (p := p) lk (by rw [e])
    exact ⟨⟨oc, od, kV, doc, pm, an, ct, osl, by rw [hfd, hc]; exact e, by rw [hfd]; exact lk, by rw [hc]; exact hcd⟩, by rw [hfd]; exact b⟩
  · exact absurd rfl z
theorem fp {p : PK2} {x q : Str} {st : Stmt} {N ps : List Str} {k : Nat} {cb : CS} (D : Dk K p x q st ps) (S : FnScope N ps (defScope st))
    (hb : ∀ (A : Around) (outer : List Env) (s : Shared) (H : Hp) (E : XK), Cok (cxOf (L2.CX P w) P w K mg base N q (defScope st) (He.fAd K p) (.ref (He.codeOf K p)) A outer s H E) (fun cls d _ H => E cls d H) k →
      RSs (cxOf (L2.CX P w) P w K mg base N q (defScope st) (He.fAd K p) (.ref (He.codeOf K p)) A outer s H E) T (fun cls d _ H => E cls d H) (defBody st) cb) : FP P w K T mg base (k + 1) p ps (cDef N.length cb) := by
  obtain ⟨oc, od, kV, doc, pm, an, ct, osl, e, lk, hcd⟩ := D.ex
  unfold FP FOk
  rw [e] at lk ⊢
  refine fn_of lk hcd S (fun vs H Q E h => ?_) (fun A outer s H vs Q E hr h => ?_)
  · obtain ⟨m, h, as, _, _, hl, _⟩ := h
    exact hl
  · obtain ⟨m, h, as, Sm, r, hl, A1⟩ := h
    refine ⟨_, (hb A outer s H E (cok_fn S hr)).pss, m, h, _, Sm, start_rep (n := N.length) r, ?_⟩
    obtain ⟨o, h', e, q⟩ := A1
    unfold cDef at e
    cases hc : cb (as.map some ++ List.replicate (N.length - as.length) none) h with
    | none => rw [hc] at e; cases e
    | some p =>
      obtain ⟨f1, h1⟩ := p
      rw [hc] at e
      cases f1 with
      | nx σ1 =>
        cases e
        refine ⟨_, _, rfl, fun m' H' σ' E' S' R' => ?_⟩
        obtain ⟨m2, E2, S2, r2⟩ := shut_ok Sm E' S' (v := .d .none) (w := .non) .non
        exact q m2 H' E2 S2 _ r2
      | rt v1 =>
        cases e
        refine ⟨_, _, rfl, fun m' H' v E' S' R' => ?_⟩
        obtain ⟨m2, E2, S2, r2⟩ := shut_ok Sm E' S' R'
        exact q m2 H' E2 S2 _ r2
      | ex s1 n fs =>
        cases e
        exact ⟨_, _, rfl, fun m' H' σ' cls d E' S' R' z => q m' H' cls d E' S' z⟩
      | bk _ => cases e
      | ct _ => cases e
theorem fp_none {p : PK2} {ps : List Str} {k : Nat} : FP P w K T mg base k p ps (fun _ _ => none) := by
  refine ⟨fun vs H Q E h => ?_, fun A outer s H args us vs Q E _ _ _ _ h => ?_⟩
  · obtain ⟨m, h, as, _, _, hl, _⟩ := h
    exact hl
  · obtain ⟨m, h, as, _, _, _, _, _, e, _⟩ := h
    cases e
theorem fp_mono {p : PK2} {ps : List Str} {j k : Nat} {c : List Val → M Val} (h : FP P w K T mg base j p ps c) (hk : j ≤ k) : FP P w K T mg base k p ps c := FnOk.mono h hk
def TabsAt (K : PySem.W.Frag) (mg : Str → Option Value) (base : Heap) (T : Tx) (p : PK2) : Prop := ∃ P, GxR.TabB base mg (He.codeOf K p) P ∧ P ∈ T.tabs
theorem tbAt {N : List Str} {p : PK2} {q : Str} {scope : Scope} {A : Around} {outer : List Env} {s : Shared} {H : Hp} {E : XK} (h : TabsAt K mg base T p) :
    TbOk (cxOf (L2.CX P w) P w K mg base N q scope (He.fAd K p) (.ref (He.codeOf K p)) A outer s H E) T := by
  obtain ⟨Pt, h1, h2⟩ := h
  exact ⟨⟨_, Pt, h1, rfl, h2⟩⟩
end
/-- a method of the text, by the head's facts -/
theorem dm_of {K : PySem.W.Frag} {cls mm q : Str} {st : Stmt} {ps : List Str} (c : Cls K (He.ga K cls)) (hm : Meth K (He.ga K cls) mm (He.ma K (He.ga K cls) mm)) (D : Dk K (cls, some mm) mm q st ps) : Dm K cls mm (He.fAd K (cls, some mm)) (fdAt K (cls, some mm)) ps := ⟨c, hm, D.b⟩
end MV
/-! for a, b in zip(xs, ys): both lists, or both tuples -/
namespace MV
open PySem PySem.Spec PyProof.Rows L2
def zipD : List PyData → List PyData → List PyData
  | a :: as, b :: bs => .tuple [a, b] :: zipD as bs
  | _, _ => []
theorem zipD_length : ∀ (as bs : List PyData), (zipD as bs).length = min as.length bs.length
  | [], _ => by unfold zipD; simp
  | _ :: _, [] => by unfold zipD; simp
  | a :: as, b :: bs => by
    show (zipD as bs).length + 1 = min (as.length + 1) (bs.length + 1)
    rw [zipD_length as bs]; omega
theorem zipD_get : ∀ {as bs : List PyData} {i : Nat} {a b : PyData}, as[i]? = some a → bs[i]? = some b → (zipD as bs)[i]? = some (.tuple [a, b])
  | a :: as, b :: bs, 0, _, _, h1, h2 => by cases h1; cases h2; rfl
  | a :: as, b :: bs, i + 1, _, _, h1, h2 => by
    show (zipD as bs)[i]? = _
    exact zipD_get (i := i) h1 h2
  | [], _, i, _, _, h1, _ => by cases h1
  | _ :: _, [], i, _, _, _, h2 => by cases h2
theorem itZip {K : PySem.W.Frag} {T : Tx} {m : MM} {H : Hp} {ds es : List PyData} {vs ws : List V} {J : It} {R R' : Hp → List V → Prop} (t : RpL K m H ds vs) (t' : RpL K m H es ws) (hR : ∀ m' H', ExtF m H m' H' → R H' vs) (hR' : ∀ m' H', ExtF m H m' H' → R' H' ws)
    (go : ∀ i H x y, R H vs → R' H ws → vs[i]? = some x → ws[i]? = some y → J.go i H)
    (yl : ∀ i H v H', R H vs → R' H ws → J.yld i H v H' → ∃ T x y, v = .ref T ∧ H T = none ∧ H' = upd H T (.tup [x, y]) ∧ vs[i]? = some x ∧ ws[i]? = some y)
    (st : ∀ i H, R H vs → R' H ws → (vs.length ≤ i ∨ ws.length ≤ i) → J.stop i H) : ItOk K T m H ((zipD ds es).map .d) J := by
  have hl : ((zipD ds es).map Val.d).length = min vs.length ws.length := by rw [List.length_map, zipD_length, t.length, t'.length]
  refine ⟨fun m1 h1 H1 i E S hi => ?_, fun m1 h1 H1 i x H' E S hi y => ?_, fun m1 h1 H1 i E S hi => st i H1 (hR m1 H1 E) (hR' m1 H1 E) (by omega)⟩
  · have hv : i < vs.length := by omega
    have hw : i < ws.length := by omega
    exact go i H1 vs[i] ws[i] (hR m1 H1 E) (hR' m1 H1 E) (by simp [hv]) (by simp [hw])
  · obtain ⟨T1, x1, y1, rfl, hT, rfl, e1, e2⟩ := yl i H1 x H' (hR m1 H1 E) (hR' m1 H1 E) y
    obtain ⟨d, ed, r⟩ := t.getV e1
    obtain ⟨d', ed', r'⟩ := t'.getV e2
    exact ⟨.d (.tuple [d, d']), m1, by rw [List.getElem?_map, zipD_get ed ed']; rfl, Ext.new S hT, S.new hT, rp_newT S hT (.cons (r.monoF E) (.cons (r'.monoF E) .nil))⟩
section
variable {X : Cx} {T : Tx} {W : WX} {e e2 : Expr} {pos p tpos : Pos} {cr : CA}
def iZipF : List Val → O (List Val) := fun xs h => match xs with
  | [.d (.list ds), .d (.list es)] => some ((zipD ds es).map .d, h)
  | [.d (.tuple ds), .d (.tuple es)] => some ((zipD ds es).map .d, h)
  | _ => none
theorem paired2 {α β : Type} {F : α → β → Prop} {x y : α} {vs : List β} (h : Paired F [x, y] vs) : ∃ v w, vs = [v, w] ∧ F x v ∧ F y w := by
  cases h with
  | cons r t => cases t with
    | cons r' t => cases t; exact ⟨_, _, rfl, r, r'⟩
theorem ri_zip {elts : List Expr} {kk : Nat} (hg : Gl X "zip") (hm : X.mg "zip" = none) (ha : RA X T W [e, e2] cr) (hs : starEach [e, e2] X.env = (false, eval e X.env) :: starEach [e2] X.env := by rfl) (hpl : (backTo pos (starEach [e2] X.env)).any (·.1) = false := by rfl) :
    RI X T W (.Tuple elts kk tpos) (.Call (.Name "zip" p) [e, e2] [] pos) (cIterA iZipF cr) := ⟨PI.imp (RZ.pi_zipA hg hm ha.pa hs hpl) fun σ H R ⟨m, h, σa, S, RS, A⟩ => ⟨m, h, σa, S, RS, A.bind.mono fun m1 h1 H1 x E S1 A1 v r => by
  obtain ⟨xs, h2, e, q⟩ := A1.lifted
  unfold iZipF at e
  split at e
  · cases e
    obtain ⟨w, w', rfl, rw', rw''⟩ := paired2 r
    rename_i ds es
    cases (show Rp X.K m1 H1 (.list ds) w from rw') with
    | @lst a vs _ hz t =>
      cases (show Rp X.K m1 H1 (.list es) w' from rw'') with
      | @lst b ws _ hz' t' =>
        exact ⟨_, _, vs, ws, rfl, .inl ⟨(TrL.fz hz).sq, (TrL.fz hz').sq, q m1 H1 (Ext.refl _ _) S1 _ (itZip (R := fun H vs => SqL X.K H a vs) (R' := fun H vs => SqL X.K H b vs) t t' (fun m' H' E => (TrL.fz (hz.monoF E)).sq) (fun m' H' E => (TrL.fz (hz'.monoF E)).sq)
          (fun i H x y h1 h2 hx hy => ⟨vs, ws, x, y, h1, h2, hx, hy⟩) (fun i H v H' h1 h2 y => by obtain ⟨T, x, y, a1, a2, a3, a4, a5⟩ := y; exact ⟨T, x, y, a1, a2, a3, a4 vs h1, a5 ws h2⟩) fun i H h1 h2 hi => ⟨vs, ws, h1, h2, hi⟩)⟩⟩
  · cases e
    obtain ⟨w, w', rfl, rw', rw''⟩ := paired2 r
    rename_i ds es
    cases (show Rp X.K m1 H1 (.tuple ds) w from rw') with
    | @tup a vs _ hz t =>
      cases (show Rp X.K m1 H1 (.tuple es) w' from rw'') with
      | @tup b ws _ hz' t' =>
        exact ⟨_, _, vs, ws, rfl, .inr ⟨hz.sq, hz'.sq, q m1 H1 (Ext.refl _ _) S1 _ (itZip (R := fun H vs => SqT X.K H a vs) (R' := fun H vs => SqT X.K H b vs) t t' (fun m' H' E => (hz.monoF E).sq) (fun m' H' E => (hz'.monoF E).sq)
          (fun i H x y h1 h2 hx hy => ⟨vs, ws, x, y, h1, h2, hx, hy⟩) (fun i H v H' h1 h2 y => by obtain ⟨T, x, y, a1, a2, a3, a4, a5⟩ := y; exact ⟨T, x, y, a1, a2, a3, a4 vs h1, a5 ws h2⟩) fun i H h1 h2 hi => ⟨vs, ws, h1, h2, hi⟩)⟩⟩
  · cases e⟩⟩
end
end MV
/-! a dict is walked: it is locked for that time -/
namespace MV
open PySem PySem.Spec PyProof.Rows L2

theorem KvR.mono0 {κ : Type} {K : PySem.W.Frag} {m m' : MM} {H H' : Hp} (E : Ext0 m H m' H') {kvs : List (κ × Val)} {ws : List (κ × V)} (r : KvR K m H kvs ws) : KvR K m' H' kvs ws := Paired.mapP r fun _ _ z => ⟨z.1, z.2.mono0 E⟩
theorem RepS.mono0 {K m H m' H' σa σ} (e : Ext0 m H m' H') (h : RepS K m H σa σ) : RepS K m' H' σa σ := Paired.mapP h fun _ _ q a ea => (fun ⟨w, e1, e2⟩ => ⟨w, e1, e2.mono0 e⟩) (q a ea)
/-- which cell -/
abbrev LP := SA → AH → Option Nat
section
variable {K : PySem.W.Frag} {T : Tx} {m : MM} {h : AH} {H : Hp}
theorem cell_T {l : Nat} {xs} (S : Sim K T m h H) (e : h[l]? = some (.dT xs)) : ∃ a ws, m[l]? = some (some a) ∧ H a = some (.dT ws) ∧ KvR K m H xs ws := by
  obtain ⟨y, e1, ok⟩ := Paired.at_ S.cell e
  cases ok with
  | dT ha hr => exact ⟨_, _, e1, ha, hr⟩
theorem lock_ok {l : Nat} {a : Addr} {kvs ws} (od : Obj) (S : Sim K T m h H) (em : m[l]? = some (some a)) (ha : H a = some (.dT ws)) (hr : KvR K m H kvs ws) :
    Ext m H m (upd H a (.frz od (.dT ws))) ∧ Sim K T m (h.set l (.lT kvs)) (upd H a (.frz od (.dT ws))) := by
  have E : Ext m H m (upd H a (.frz od (.dT ws))) := Ext.store em _ ⟨_, ha, (fun _ _ z => nomatch z), (fun _ z => nomatch z)⟩
  exact ⟨E, S.store em (.lT upd_same (KvR.mono E hr))⟩
theorem unlock_ok {l : Nat} {a : Addr} {ws} {od : Obj} (S : Sim K T m h H) (em : m[l]? = some (some a)) (ha : H a = some (.dT ws)) {m' : MM} {h' : AH} {H' : Hp} (E' : Ext m (upd H a (.frz od (.dT ws))) m' H') (S' : Sim K T m' h' H') {kvs'} (e : h'[l]? = some (.lT kvs')) :
    H' a = some (.frz od (.dT ws)) ∧ Ext m H m' (upd H' a (.dT ws)) ∧ Ext0 m' H' m' (upd H' a (.dT ws)) ∧ Sim K T m' (h'.set l (.dT kvs')) (upd H' a (.dT ws)) := by
  have hd : H' a = some (.frz od (.dT ws)) := E'.frz a od _ upd_same
  obtain ⟨a', od', ws', em', ha', hr'⟩ := cell_lT S' e
  have hl : l < m.length := (List.getElem?_eq_some_iff.mp em).1
  have ea : a' = a := by
    have := E'.at' l a' hl em'
    rw [em] at this
    cases this; rfl
  subst ea
  rw [hd] at ha'
  cases ha'
  have E2 : Ext0 m' H' m' (upd H' a' (.dT ws)) := Ext0.store em' _
  have E1 : Ext m H m (upd H a' (.frz od (.dT ws))) := Ext.store em _ ⟨_, ha, (fun _ _ z => nomatch z), (fun _ z => nomatch z)⟩
  refine ⟨hd, ⟨⟨(E1.toExt0.trans E'.toExt0).trans E2, fun b od2 u eb => ?_⟩, fun b φ eb => ?_⟩, E2, S'.store em' (.dT upd_same (KvR.mono0 E2 hr'))⟩
  · have nb : b ≠ a' := fun z => by subst z; rw [ha] at eb; cases eb
    rw [upd_ne nb]
    exact (E1.trans E').frz b od2 u eb
  · have nb : b ≠ a' := fun z => by subst z; rw [ha] at eb; cases eb
    rw [upd_ne nb]
    exact (E1.trans E').ext b φ eb
end
/-- the cell of a slot -/
def pSlot (i : Nat) : LP := fun σ _ => match σ[i]? with
  | some (some (.ref l)) => some l
  | _ => none
/-- the statement runs while the dict is locked -/
def sLock (p : LP) (cs : CS) : CS := fun σ h => match p σ h with
  | some l => match h[l]? with
    | some (.dT kvs) => match cs σ (h.set l (.lT kvs)) with
      | some (.ex σ' n fs, h') => some (.ex σ' n fs, h')
      | some (f, h') => match h'[l]? with
        | some (.lT kvs') => some (f, h'.set l (.dT kvs'))
        | _ => none
      | none => none
    | _ => none
  | none => none
section
variable {X : Cx} {T : Tx} {W : WX} {st : Stmt} {cs : CS} {e tg : Expr} {ce : CE}
theorem rs_lock (p : LP) (hs : RS X T W st cs) : RS X T W st (sLock p cs) := ⟨PS.imp (ps_lock hs.ps) fun D σ H ⟨m, h0, σa, S, RS, fl, h', ee, q⟩ => by
  unfold sLock at ee
  cases hp : p σa h0 with
  | none => rw [hp] at ee; cases ee
  | some l =>
    rw [hp] at ee
    simp only at ee
    cases hl : h0[l]? with
    | none => rw [hl] at ee; cases ee
    | some cell =>
      rw [hl] at ee
      cases cell with
      | dT kvs =>
        simp only at ee
        obtain ⟨a, ws, em, ha, hr⟩ := cell_T S hl
        refine ⟨a, .dT ws, ha, True.intro, fun od => ?_⟩
        obtain ⟨E1, S1⟩ := lock_ok od S em ha hr
        refine ⟨m, _, σa, S1, RS.mono E1, ?_⟩
        cases hc : cs σa (h0.set l (.lT kvs)) with
        | none => rw [hc] at ee; cases ee
        | some pr =>
          obtain ⟨f1, h1⟩ := pr
          rw [hc] at ee
          refine ⟨f1, h1, rfl, ?_⟩
          cases f1 with
          | ex σ1 n fs => cases ee; exact fun m' H' σ' cl d E' S' RS' z => q m' H' σ' cl d (E1.trans E') S' RS' z
          | nx σ1 =>
            simp only at ee
            split at ee
            · rename_i kvs' h1l
              cases ee
              intro m' H' σ' E' S' RS'
              obtain ⟨hd, E2, E3, S2⟩ := unlock_ok S em ha E' S' h1l
              exact ⟨hd, q m' _ σ' E2 S2 (RS'.mono0 E3)⟩
            · cases ee
          | bk σ1 =>
            simp only at ee
            split at ee
            · rename_i kvs' h1l
              cases ee
              intro m' H' σ' E' S' RS'
              obtain ⟨hd, E2, E3, S2⟩ := unlock_ok S em ha E' S' h1l
              exact ⟨hd, q m' _ σ' E2 S2 (RS'.mono0 E3)⟩
            · cases ee
          | ct σ1 =>
            simp only at ee
            split at ee
            · rename_i kvs' h1l
              cases ee
              intro m' H' σ' E' S' RS'
              obtain ⟨hd, E2, E3, S2⟩ := unlock_ok S em ha E' S' h1l
              exact ⟨hd, q m' _ σ' E2 S2 (RS'.mono0 E3)⟩
            · cases ee
          | rt v1 =>
            simp only at ee
            split at ee
            · rename_i kvs' h1l
              cases ee
              intro m' H' v E' S' RV'
              obtain ⟨hd, E2, E3, S2⟩ := unlock_ok S em ha E' S' h1l
              exact ⟨hd, q m' _ v E2 S2 (RV'.mono0 E3)⟩
            · cases ee
      | _ => simp only at ee; cases ee⟩
/-- .. an expression -/
def cLock (p : LP) (ce : CE) : CE := fun σ h => match p σ h with
  | some l => match h[l]? with
    | some (.dT kvs) => match ce σ (h.set l (.lT kvs)) with
      | some (.exn n fs, h') => some (.exn n fs, h')
      | some (.ok x, h') => match h'[l]? with
        | some (.lT kvs') => some (.ok x, h'.set l (.dT kvs'))
        | _ => none
      | none => none
    | _ => none
  | none => none
theorem re_lock (p : LP) (he : RE X T W e ce) : RE X T W e (cLock p ce) := ⟨PE.imp (pe_lock he.pe) fun σ H Q ⟨m, h0, σa, S, RS, r, h', ee, q⟩ => by
  unfold cLock at ee
  cases hp : p σa h0 with
  | none => rw [hp] at ee; cases ee
  | some l =>
    rw [hp] at ee
    simp only at ee
    cases hl : h0[l]? with
    | none => rw [hl] at ee; cases ee
    | some cell =>
      rw [hl] at ee
      cases cell with
      | dT kvs =>
        simp only at ee
        obtain ⟨a, ws, em, ha, hr⟩ := cell_T S hl
        refine ⟨a, .dT ws, ha, True.intro, fun od => ?_⟩
        obtain ⟨E1, S1⟩ := lock_ok od S em ha hr
        refine ⟨m, _, σa, S1, RS.mono E1, ?_⟩
        cases hc : ce σa (h0.set l (.lT kvs)) with
        | none => rw [hc] at ee; cases ee
        | some pr =>
          obtain ⟨f1, h1⟩ := pr
          rw [hc] at ee
          refine ⟨f1, h1, rfl, ?_⟩
          cases f1 with
          | exn n fs => cases ee; exact fun m' H' cl d E' S' z => q m' H' cl d (E1.trans E') S' z
          | ok v1 =>
            simp only at ee
            split at ee
            · rename_i kvs' h1l
              cases ee
              intro m' H' E' S' v RV'
              obtain ⟨hd, E2, E3, S2⟩ := unlock_ok S em ha E' S' h1l
              exact ⟨hd, q m' _ E2 S2 v (RV'.mono0 E3)⟩
            · cases ee
      | _ => simp only at ee; cases ee⟩
end
/-! ### for k in d, d locked, its keys tuples -/
def keyD (kvs : List (List Key × Val)) : List PyData := kvs.map fun kv => .tuple (kv.1.map dOfK)
theorem itKt {K : PySem.W.Frag} {T : Tx} {m : MM} {H : Hp} {d : Addr} {od : Obj} {kvs : List (List Key × Val)} {ws : List (List Key × V)} (hd : H d = some (.frz od (.dT ws))) (hr : KvR K m H kvs ws) : ItOk K T m H ((keyD kvs).map .d) (Itkt d od ws) := by
  have hl : ((keyD kvs).map Val.d).length = ws.length := by unfold keyD; rw [List.length_map, List.length_map, Paired.len hr]
  refine ⟨fun m1 h1 H1 i E S hi => ⟨E.frz _ _ _ hd, by omega⟩, fun m1 h1 H1 i x H' E S hi y => ?_, fun m1 h1 H1 i E S hi => ⟨E.frz _ _ _ hd, by omega⟩⟩
  obtain ⟨rfl, k, v, q, e1, rfl, hq⟩ := y
  obtain ⟨⟨k', x'⟩, e2, r⟩ := Paired.at2 hr e1
  have ek : k' = k := r.1
  subst ek
  refine ⟨.d (.tuple (k'.map dOfK)), m1, ?_, Ext.refl _ _, S, S.keyT hq⟩
  unfold keyD
  rw [List.getElem?_map, List.getElem?_map, e2]
  rfl
section
variable {X : Cx} {T : Tx} {W : WX} {e tg : Expr} {ce : CE}
def iKeysT (x : Val) : O (List Val) := fun h => match x with
  | .ref l => match h[l]? with
    | some (.lT kvs) => some ((keyD kvs).map .d, h)
    | _ => none
  | _ => none
theorem ri_keys (he : RE X T W e ce) : RI X T W tg e (cIter iKeysT ce) := ⟨PI.imp (pi_keys he.pe) fun σ H R ⟨m, h, σa, S, RS, A⟩ => ⟨m, h, σa, S, RS, A.bind.mono fun m1 h1 H1 x E S1 A1 v r => by
  obtain ⟨xs, h2, e, q⟩ := A1.lifted
  unfold iKeysT at e
  split at e
  · rename_i l
    split at e
    · rename_i kvs hl
      cases e
      obtain ⟨a, od, ws, em, ha, hr⟩ := cell_lT S1 hl
      exact ⟨a, od, r.2 _ em, .inr ⟨ws, ha, q m1 H1 (Ext.refl _ _) S1 _ (itKt ha hr)⟩⟩
    · cases e
  · cases e⟩⟩
end
end MV
/-! a dict with plain keys is walked: it is locked for that time -/
namespace MV
open PySem PySem.Spec PyProof.Rows L2
theorem cell_lK {K : PySem.W.Frag} {T : Tx} {m : MM} {h : AH} {H : Hp} {l : Nat} {xs} (S : Sim K T m h H) (e : h[l]? = some (.lK xs)) : ∃ a od ws, m[l]? = some (some a) ∧ H a = some (.frz od (.dK ws)) ∧ KvR K m H xs ws := by
  obtain ⟨y, e1, ok⟩ := Paired.at_ S.cell e
  cases ok with
  | lK ha hr => exact ⟨_, _, _, e1, ha, hr⟩
/-- the last thing of the list that a slot holds -/
def pLast (i : Nat) : LP := fun σ h => match σ[i]? with
  | some (some (.ref l)) => match h[l]? with
    | some (.lst xs) => match xs.getLast? with
      | some (.ref l') => some l'
      | _ => none
    | _ => none
  | _ => none
section
variable {K : PySem.W.Frag} {T : Tx} {m : MM} {h : AH} {H : Hp}
theorem cell_Kd {l : Nat} {xs} (S : Sim K T m h H) (e : h[l]? = some (.dK xs)) : ∃ a ws, m[l]? = some (some a) ∧ H a = some (.dK ws) ∧ KvR K m H xs ws := by
  obtain ⟨y, e1, ok⟩ := Paired.at_ S.cell e
  cases ok with
  | dK ha hr => exact ⟨_, _, e1, ha, hr⟩
theorem lockK_ok {l : Nat} {a : Addr} {kvs ws} (od : Obj) (S : Sim K T m h H) (em : m[l]? = some (some a)) (ha : H a = some (.dK ws)) (hr : KvR K m H kvs ws) :
    Ext m H m (upd H a (.frz od (.dK ws))) ∧ Sim K T m (h.set l (.lK kvs)) (upd H a (.frz od (.dK ws))) := by
  have E : Ext m H m (upd H a (.frz od (.dK ws))) := Ext.store em _ ⟨_, ha, (fun _ _ z => nomatch z), (fun _ z => nomatch z)⟩
  exact ⟨E, S.store em (.lK upd_same (KvR.mono E hr))⟩
theorem unlockK_ok {l : Nat} {a : Addr} {ws} {od : Obj} (S : Sim K T m h H) (em : m[l]? = some (some a)) (ha : H a = some (.dK ws)) {m' : MM} {h' : AH} {H' : Hp} (E' : Ext m (upd H a (.frz od (.dK ws))) m' H') (S' : Sim K T m' h' H') {kvs'} (e : h'[l]? = some (.lK kvs')) :
    H' a = some (.frz od (.dK ws)) ∧ Ext m H m' (upd H' a (.dK ws)) ∧ Ext0 m' H' m' (upd H' a (.dK ws)) ∧ Sim K T m' (h'.set l (.dK kvs')) (upd H' a (.dK ws)) := by
  have hd : H' a = some (.frz od (.dK ws)) := E'.frz a od _ upd_same
  obtain ⟨a', od', ws', em', ha', hr'⟩ := cell_lK S' e
  have hl : l < m.length := (List.getElem?_eq_some_iff.mp em).1
  have ea : a' = a := by
    have := E'.at' l a' hl em'
    rw [em] at this
    cases this; rfl
  subst ea
  rw [hd] at ha'
  cases ha'
  have E2 : Ext0 m' H' m' (upd H' a' (.dK ws)) := Ext0.store em' _
  have E1 : Ext m H m (upd H a' (.frz od (.dK ws))) := Ext.store em _ ⟨_, ha, (fun _ _ z => nomatch z), (fun _ z => nomatch z)⟩
  refine ⟨hd, ⟨⟨(E1.toExt0.trans E'.toExt0).trans E2, fun b od2 u eb => ?_⟩, fun b φ eb => ?_⟩, E2, S'.store em' (.dK upd_same (KvR.mono0 E2 hr'))⟩
  · have nb : b ≠ a' := fun z => by subst z; rw [ha] at eb; cases eb
    rw [upd_ne nb]
    exact (E1.trans E').frz b od2 u eb
  · have nb : b ≠ a' := fun z => by subst z; rw [ha] at eb; cases eb
    rw [upd_ne nb]
    exact (E1.trans E').ext b φ eb
end
/-- the statement runs while the dict is locked -/
def sLockK (p : LP) (cs : CS) : CS := fun σ h => match p σ h with
  | some l => match h[l]? with
    | some (.dK kvs) => match cs σ (h.set l (.lK kvs)) with
      | some (.ex σ' n fs, h') => some (.ex σ' n fs, h')
      | some (f, h') => match h'[l]? with
        | some (.lK kvs') => some (f, h'.set l (.dK kvs'))
        | _ => none
      | none => none
    | _ => none
  | none => none
section
variable {X : Cx} {T : Tx} {W : WX} {st : Stmt} {cs : CS} {e tg : Expr} {ce : CE}
theorem rs_lockK (p : LP) (hs : RS X T W st cs) : RS X T W st (sLockK p cs) := ⟨PS.imp (ps_lock hs.ps) fun D σ H ⟨m, h0, σa, S, RS, fl, h', ee, q⟩ => by
  unfold sLockK at ee
  cases hp : p σa h0 with
  | none => rw [hp] at ee; cases ee
  | some l =>
    rw [hp] at ee
    simp only at ee
    cases hl : h0[l]? with
    | none => rw [hl] at ee; cases ee
    | some cell =>
      rw [hl] at ee
      cases cell with
      | dK kvs =>
        simp only at ee
        obtain ⟨a, ws, em, ha, hr⟩ := cell_Kd S hl
        refine ⟨a, .dK ws, ha, True.intro, fun od => ?_⟩
        obtain ⟨E1, S1⟩ := lockK_ok od S em ha hr
        refine ⟨m, _, σa, S1, RS.mono E1, ?_⟩
        cases hc : cs σa (h0.set l (.lK kvs)) with
        | none => rw [hc] at ee; cases ee
        | some pr =>
          obtain ⟨f1, h1⟩ := pr
          rw [hc] at ee
          refine ⟨f1, h1, rfl, ?_⟩
          cases f1 with
          | ex σ1 n fs => cases ee; exact fun m' H' σ' cl d E' S' RS' z => q m' H' σ' cl d (E1.trans E') S' RS' z
          | nx σ1 =>
            simp only at ee
            split at ee
            · rename_i kvs' h1l
              cases ee
              intro m' H' σ' E' S' RS'
              obtain ⟨hd, E2, E3, S2⟩ := unlockK_ok S em ha E' S' h1l
              exact ⟨hd, q m' _ σ' E2 S2 (RS'.mono0 E3)⟩
            · cases ee
          | bk σ1 =>
            simp only at ee
            split at ee
            · rename_i kvs' h1l
              cases ee
              intro m' H' σ' E' S' RS'
              obtain ⟨hd, E2, E3, S2⟩ := unlockK_ok S em ha E' S' h1l
              exact ⟨hd, q m' _ σ' E2 S2 (RS'.mono0 E3)⟩
            · cases ee
          | ct σ1 =>
            simp only at ee
            split at ee
            · rename_i kvs' h1l
              cases ee
              intro m' H' σ' E' S' RS'
              obtain ⟨hd, E2, E3, S2⟩ := unlockK_ok S em ha E' S' h1l
              exact ⟨hd, q m' _ σ' E2 S2 (RS'.mono0 E3)⟩
            · cases ee
          | rt v1 =>
            simp only at ee
            split at ee
            · rename_i kvs' h1l
              cases ee
              intro m' H' v E' S' RV'
              obtain ⟨hd, E2, E3, S2⟩ := unlockK_ok S em ha E' S' h1l
              exact ⟨hd, q m' _ v E2 S2 (RV'.mono0 E3)⟩
            · cases ee
      | _ => simp only at ee; cases ee⟩
/-- .. an expression -/
def cLockK (p : LP) (ce : CE) : CE := fun σ h => match p σ h with
  | some l => match h[l]? with
    | some (.dK kvs) => match ce σ (h.set l (.lK kvs)) with
      | some (.exn n fs, h') => some (.exn n fs, h')
      | some (.ok x, h') => match h'[l]? with
        | some (.lK kvs') => some (.ok x, h'.set l (.dK kvs'))
        | _ => none
      | none => none
    | _ => none
  | none => none
theorem re_lockK (p : LP) (he : RE X T W e ce) : RE X T W e (cLockK p ce) := ⟨PE.imp (pe_lock he.pe) fun σ H Q ⟨m, h0, σa, S, RS, r, h', ee, q⟩ => by
  unfold cLockK at ee
  cases hp : p σa h0 with
  | none => rw [hp] at ee; cases ee
  | some l =>
    rw [hp] at ee
    simp only at ee
    cases hl : h0[l]? with
    | none => rw [hl] at ee; cases ee
    | some cell =>
      rw [hl] at ee
      cases cell with
      | dK kvs =>
        simp only at ee
        obtain ⟨a, ws, em, ha, hr⟩ := cell_Kd S hl
        refine ⟨a, .dK ws, ha, True.intro, fun od => ?_⟩
        obtain ⟨E1, S1⟩ := lockK_ok od S em ha hr
        refine ⟨m, _, σa, S1, RS.mono E1, ?_⟩
        cases hc : ce σa (h0.set l (.lK kvs)) with
        | none => rw [hc] at ee; cases ee
        | some pr =>
          obtain ⟨f1, h1⟩ := pr
          rw [hc] at ee
          refine ⟨f1, h1, rfl, ?_⟩
          cases f1 with
          | exn n fs => cases ee; exact fun m' H' cl d E' S' z => q m' H' cl d (E1.trans E') S' z
          | ok v1 =>
            simp only at ee
            split at ee
            · rename_i kvs' h1l
              cases ee
              intro m' H' E' S' v RV'
              obtain ⟨hd, E2, E3, S2⟩ := unlockK_ok S em ha E' S' h1l
              exact ⟨hd, q m' _ E2 S2 v (RV'.mono0 E3)⟩
            · cases ee
      | _ => simp only at ee; cases ee⟩
end
/-! ### for k in d, d locked, its keys ints or texts -/
def keyK (kvs : List (Key × Val)) : List PyData := kvs.map fun kv => dOfK kv.1
theorem itKk {K : PySem.W.Frag} {T : Tx} {m : MM} {H : Hp} {d : Addr} {od : Obj} {kvs : List (Key × Val)} {ws : List (Key × V)} (hd : H d = some (.frz od (.dK ws))) (hr : KvR K m H kvs ws) : ItOk K T m H ((keyK kvs).map .d) (Itk d od ws) := by
  have hl : ((keyK kvs).map Val.d).length = ws.length := by unfold keyK; rw [List.length_map, List.length_map, Paired.len hr]
  refine ⟨fun m1 h1 H1 i E S hi => ⟨E.frz _ _ _ hd, by omega⟩, fun m1 h1 H1 i x H' E S hi y => ?_, fun m1 h1 H1 i E S hi => ⟨E.frz _ _ _ hd, by omega⟩⟩
  obtain ⟨rfl, k, v, e1, rfl⟩ := y
  obtain ⟨⟨k', x'⟩, e2, r⟩ := Paired.at2 hr e1
  have ek : k' = k := r.1
  subst ek
  refine ⟨.d (dOfK k'), m1, ?_, Ext.refl _ _, S, dOfK_rp k'⟩
  unfold keyK
  rw [List.getElem?_map, List.getElem?_map, e2]
  rfl
section
variable {X : Cx} {T : Tx} {W : WX} {e tg : Expr} {ce : CE}
def iKeysK (x : Val) : O (List Val) := fun h => match x with
  | .ref l => match h[l]? with
    | some (.lK kvs) => some ((keyK kvs).map .d, h)
    | _ => none
  | _ => none
theorem ri_keysK (he : RE X T W e ce) : RI X T W tg e (cIter iKeysK ce) := ⟨PI.imp (pi_keys he.pe) fun σ H R ⟨m, h, σa, S, RS, A⟩ => ⟨m, h, σa, S, RS, A.bind.mono fun m1 h1 H1 x E S1 A1 v r => by
  obtain ⟨xs, h2, e, q⟩ := A1.lifted
  unfold iKeysK at e
  split at e
  · rename_i l
    split at e
    · rename_i kvs hl
      cases e
      obtain ⟨a, od, ws, em, ha, hr⟩ := cell_lK S1 hl
      exact ⟨a, od, r.2 _ em, .inl ⟨ws, ha, q m1 H1 (Ext.refl _ _) S1 _ (itKk ha hr)⟩⟩
    · cases e
  · cases e⟩⟩
end
end MV
/-! d.get(k), d.get(k, x) -/
namespace MV
open PySem PySem.Spec PyProof.Rows L2
def isDc (x : Val) (h : AH) : Bool := match x with
  | .ref l => match h[l]? with
    | some (.dK _) => true
    | some (.dT _) => true
    | some (.lT _) => true
    | _ => false
  | _ => false
section
variable {X : Cx} {T : Tx} {W : WX} {o e f : Expr} {apos cpos : Pos} {co ce cf : CE}
theorem isD_c {m : MM} {h : AH} {H : Hp} {x : Val} {v : V} (S : Sim X.K T m h H) (r : RepV X.K m H x v) (e : isDc x h = true) : ∃ a, v = .ref a ∧ IsD H a := by
  unfold isDc at e
  split at e
  · rename_i l
    split at e
    · rename_i kvs hl
      obtain ⟨a, ws, rfl, em, ha, hr⟩ := cell_dK S r hl
      exact ⟨a, rfl, .inl ⟨ws, .inl ha⟩⟩
    · rename_i kvs hl
      obtain ⟨a, ws, rfl, em, ha, hr⟩ := cell_dT S r hl
      exact ⟨a, rfl, .inr ⟨ws, .inl ha⟩⟩
    · rename_i kvs hl
      obtain ⟨a, od, ws, em, ha, hr⟩ := cell_lT S hl
      exact ⟨a, r.2 _ em, .inr ⟨ws, .inr ⟨od, ha⟩⟩⟩
    · cases e
  · cases e
def gGet (x y z : Val) : O Val := fun h => match getD? x y h with
  | some (some v) => some (v, h)
  | some none => some (z, h)
  | none => none
def chkD (x : Val) : O Unit := fun h => if isDc x h = true then some ((), h) else none
def cGet1 (co ce : CE) : CE := fun σ => bnd (co σ) fun x => bnd (lift (chkD x)) fun _ => bnd (ce σ) fun y => lift (gGet x y (.d .none))
def cGet2 (co ce cf : CE) : CE := fun σ => bnd (co σ) fun x => bnd (lift (chkD x)) fun _ => bnd (ce σ) fun y => bnd (cf σ) fun z => lift (gGet x y z)
theorem chkD_some {x : Val} {h h' : AH} {u : Unit} (e : chkD x h = some (u, h')) : isDc x h = true ∧ h' = h := by
  unfold chkD at e
  by_cases hk : isDc x h = true
  · rw [if_pos hk] at e; cases e; exact ⟨hk, rfl⟩
  · rw [if_neg hk] at e; cases e
theorem gGet_of {m : MM} {h h' : AH} {H : Hp} {x y z w : Val} {a : Addr} {vy vz : V} (S : Sim X.K T m h H) (r1 : RepV X.K m H x (.ref a)) (r2 : RepV X.K m H y vy) (r3 : RepV X.K m H z vz) (e : gGet x y z h = some (w, h')) : h' = h ∧ ∃ o, DGet H a vy o ∧ RepV X.K m H w (o.getD vz) := by
  unfold gGet at e
  cases hg : getD? x y h with
  | none => rw [hg] at e; cases e
  | some r =>
    rw [hg] at e
    obtain ⟨a', rv, ea, g, q⟩ := dget_of S r1 r2 hg
    cases ea
    rcases q with ⟨rfl, rfl⟩ | ⟨x1, w1, rfl, rfl, rw1⟩
    · cases e; exact ⟨rfl, none, g, r3⟩
    · cases e; exact ⟨rfl, some w1, g, rw1⟩
theorem re_get1 (hu : X.A.units + 1 < cLine) (ho : RE X T W o co) (he : RE X T W e ce) (m : M1 X o "get" apos e cpos := by exact ⟨rfl, rfl, rfl, rfl⟩) : RE X T W (.Call (.Attribute o "get" apos) [e] [] cpos) (cGet1 co ce) :=
  ⟨PE.imp (pe_dget1 hu ho.pe he.pe m) fun σ H Q h => by
    refine tAny_bind h fun m h1 H1 σa x v S RS r A => ?_
    obtain ⟨u, h2, e, q⟩ := A.bind.lifted
    obtain ⟨hk, rfl⟩ := chkD_some e
    obtain ⟨a, rfl, d⟩ := isD_c S r hk
    refine ⟨a, rfl, d, m, _, σa, S, RS, (q m H1 (Ext.refl _ _) S).bind.mono fun m2 h3 H2 y E2 S2 A2 vy ry => ?_⟩
    obtain ⟨w, h4, e4, q4⟩ := A2.lifted
    obtain ⟨rfl, o, g, rw1⟩ := gGet_of S2 (r.mono E2) ry (z := .d .none) (vz := .non) .non e4
    exact ⟨o, g, q4 m2 H2 (Ext.refl _ _) S2 _ rw1⟩⟩
theorem re_get2 (hu : X.A.units + 1 < cLine) (ho : RE X T W o co) (he : RE X T W e ce) (hf : RE X T W f cf) (m : M2 X o "get" apos e f cpos := by exact ⟨rfl, rfl, rfl, rfl⟩) : RE X T W (.Call (.Attribute o "get" apos) [e, f] [] cpos) (cGet2 co ce cf) :=
  ⟨PE.imp (pe_dget2 hu ho.pe he.pe hf.pe m) fun σ H Q h => by
    refine tAny_bind h fun m h1 H1 σa x v S RS r A => ?_
    obtain ⟨u, h2, e, q⟩ := A.bind.lifted
    obtain ⟨hk, rfl⟩ := chkD_some e
    obtain ⟨a, rfl, d⟩ := isD_c S r hk
    refine ⟨a, rfl, d, m, _, σa, S, RS, (q m H1 (Ext.refl _ _) S).bind.mono fun m2 h3 H2 y E2 S2 A2 vy ry => ?_⟩
    refine ⟨m2, _, σa, S2, RS.mono E2, A2.bind.mono fun m3 h4 H3 z E3 S3 A3 vz rz => ?_⟩
    obtain ⟨w, h5, e4, q4⟩ := A3.lifted
    obtain ⟨rfl, o, g, rw1⟩ := gGet_of S3 ((r.mono E2).mono E3) (ry.mono E3) rz e4
    exact ⟨o, g, q4 m3 H3 (Ext.refl _ _) S3 _ rw1⟩⟩
end
end MV
/-! for k in d.keys(), d locked, its keys tuples -/
namespace MV
open PySem PySem.Spec PyProof.Rows L2
def iKeysMT (td : TE) : TI := fun σ H R => td σ H fun x H1 => ∃ d o kvs, x = .ref d ∧ H1 d = some (.frz o (.dT kvs)) ∧ R (Itkt d o kvs) H1
section
variable {X : Cx} {T : Tx} {W : WX} {e tg : Expr} {td : TE} {ce : CE} {apos cpos : Pos}
theorem pi_keysMT (he : PE X e td) (hbase : attributeBase e "keys" X.env (eval e X.env) = eval e X.env := by rfl) (hline : (apos.endLine == cpos.line) = true := by rfl) : PI X tg (.Call (.Attribute e "keys" apos) [] [] cpos) (iKeysMT td) := by
  refine ⟨fun pins s σ H R I h => ?_⟩
  refine wpAny_Call_method (T := "dict") (id := "dict.keys") hbase rfl hline F.plainAttrs_dict F.slot_dict_keys F.type_dict_keys (thn (he.run pins s σ H _ I h) fun u s1 ⟨x, H1, I1, rx, d, o, kvs, ex, hd, q⟩ => ?_)
  subst ex
  obtain rfl : u = Value.ref d := rx
  obtain ⟨hs, hgd, hx, es, ep, hdt, hsz, ent⟩ := I1.frzT hd
  have raw : s1.heap.DictRaw d es ep := ⟨o, hgd, hx, hdt⟩
  refine ⟨raw.typeIs, fun b q => ?_, ?_⟩
  · cases q
    exact ⟨o, hgd, hx.2.1⟩
  have I2 : Inv X pins σ H1 { s1 with heap := s1.heap.push { cls := .type "dict_keys", data := .fields #[.ref d] } } := I1.kept (t' := s1.toks) fun b ob q => Heap.get?_push_of_some _ q
  have fin : wpAny (model X.prog X.w) X.A (pyIter (.ref s1.heap.objs.size)) (PIE X pins σ tg R) X.xe { s1 with heap := s1.heap.push { cls := .type "dict_keys", data := .fields #[.ref d] } } := by
    refine wpAny_pyIter_keys_raw (d := d) (es := es) (ep := ep) ⟨_, Heap.get?_push_size _ rfl, rfl, rfl⟩ (raw.at fun o' e' => Heap.get?_push_of_some _ e') (pi_one (tk := s1.toks) I2 _ (turn_keysT _ hdt) ⟨_, Heap.get?_push_size _ rfl, rfl, ?_⟩ q)
    rw [hsz] <;> rfl
  show wpAny _ _ (callWith cpos (.builtin "dict.keys") [.ref d] [] []) _ X.xe s1
  exact method_meetsIn F.slot_dict_keys F.entry_dict_keys rfl (PySem.evalArgs_none ⟨rfl, raw.typeIs, F.args_dict_keys_1 _, _, meets_dict_keys_raw d hs, ⟨es, ep, raw⟩, fin⟩)
theorem ri_keysM (he : RE X T W e ce) (hbase : attributeBase e "keys" X.env (eval e X.env) = eval e X.env := by rfl) (hline : (apos.endLine == cpos.line) = true := by rfl) : RI X T W tg (.Call (.Attribute e "keys" apos) [] [] cpos) (cIter iKeysT ce) := ⟨PI.imp (pi_keysMT he.pe hbase hline) fun σ H R ⟨m, h, σa, S, RS, A⟩ => ⟨m, h, σa, S, RS, A.bind.mono fun m1 h1 H1 x E S1 A1 v r => by
  obtain ⟨xs, h2, e, q⟩ := A1.lifted
  unfold iKeysT at e
  split at e
  · rename_i l
    split at e
    · rename_i kvs hl
      cases e
      obtain ⟨a, od, ws, em, ha, hr⟩ := cell_lT S1 hl
      exact ⟨a, od, ws, r.2 _ em, ha, q m1 H1 (Ext.refl _ _) S1 _ (itKt ha hr)⟩
    · cases e
  · cases e⟩⟩
end
end MV
/-! xs.extend(ys): ys a list of data, or a cell -/
namespace MV
open PySem PySem.Spec PyProof.Rows L2
def gExtend : GM := fun o xs h => match o, xs with
  | .ref l, [y] => match h[l]? with
    | some (.lst ys) => match y with
      | .d (.list ds) => if ys.length + ds.length ≤ sizeLine then some (.d .none, h.set l (.lst (ys ++ ds.map .d))) else none
      | _ => none
    | _ => none
  | _, _ => none
section
variable {X : Cx} {T : Tx} {W : WX} {o e : Expr} {es : List Expr} {apos cpos : Pos} {co : CE} {cr : CA}
theorem m_extend : MtM X "list.extend" (rM X.K T gExtend) := by
  intro pins s σ H x vs v us Q I rx rv h
  refine mt_extend pins s σ H x vs v us Q I rx rv ?_
  obtain ⟨m, h0, o, xs, z, h', S, ro, rs, e, q⟩ := h
  unfold gExtend at e
  split at e
  · rename_i l y
    cases hl : h0[l]? with
    | none => simp only [hl] at e; cases e
    | some cc =>
      simp only [hl] at e
      cases cc with
      | lst ys =>
        simp only at e
        split at e
        · rename_i ds
          by_cases hz : ys.length + ds.length ≤ sizeLine
          · rw [if_pos hz] at e; cases e
            obtain ⟨a, ws, rfl, em, ha, hr⟩ := cell_lst S ro hl
            obtain ⟨w, rfl, rw'⟩ := paired1 rs
            cases (show Rp X.K m H (.list ds) w from rw') with
            | @lst b zs _ hb t =>
              have E := Ext.store em (.lst (ws ++ zs)) ⟨_, ha, (fun _ _ z => nomatch z), (fun _ z => nomatch z)⟩
              exact ⟨a, b, ws, zs, rfl, rfl, ha, hb.1, by rw [← Paired.len hr, ← t.length]; exact hz, q m _ E (S.store em (.lst upd_same (RepVs.mono E (Paired.app hr t.vals)))) _ .non⟩
          · rw [if_neg hz] at e; cases e
        · cases e
      | _ => cases e
  · cases e
theorem re_extend (ho : RE X T W o co) (ha : RA X T W (e :: es) cr) (hbase : attributeBase o "extend" X.env (eval o X.env) = eval o X.env := by rfl)
    (hfew : ((backTo cpos (starEach (e :: es) X.env)).all (fun x => !x.1) && (backToKw cpos (keywordEach [] X.env)).all (fun x => x.1.isSome) && decide ((e :: es).length + ([] : List Keyword).length + (if ([] : List Keyword).isEmpty then 0 else 1) < 30)) = true := by rfl)
    (hline : (apos.endLine == cpos.line) = true := by rfl) (hs : starEach (e :: es) X.env = (false, eval e X.env) :: starEach es X.env := by rfl) (hplain : (backTo cpos (starEach es X.env)).any (·.1) = false := by rfl) :
    RE X T W (.Call (.Attribute o "extend" apos) (e :: es) [] cpos) (cMt isCl gExtend co cr) :=
  ⟨PE.imp (pe_bm PySem.F.plainAttrs_list PySem.F.slot_list_extend PySem.F.type_list_extend m_extend ho.pe ha.pa hbase hfew hline hs hplain) fun σ H Q h => tE_mt (fun m h H x v S r e => ty_cl S r e) h⟩
end
end MV
/-! max of a tuple of ints -/
namespace MV
open PySem PySem.Spec PyProof.Rows L2 PySem.W
def maxF (a : Int) (l : List Int) : Int := l.foldl (fun a y => if a < y then y else a) a
theorem maxD_ints : ∀ (l : List Int) (a : Int), maxD (.int a) (l.map .int) = .int (maxF a l)
  | [], a => rfl
  | b :: l, a => by
    show (l.map PyData.int).foldl (fun a y => if dataLt a y then y else a) (if dataLt (.int a) (.int b) then .int b else .int a) = .int (l.foldl (fun a y => if a < y then y else a) (if a < b then b else a))
    rw [dataLt_int]
    by_cases h : a < b
    · rw [if_pos (by simpa using h), if_pos h]; exact maxD_ints l b
    · rw [if_neg (by simpa using h), if_neg h]; exact maxD_ints l a
def fMaxT : PyData → Option PyData
  | .tuple ds => match intsOf ds with
    | some (a :: l) => some (.int (maxF a l))
    | _ => none
  | _ => none
theorem depth_ints : ∀ l : List Int, PyData.depthAll (l.map .int) ≤ 1
  | [] => by decide
  | a :: l => by
    have := depth_ints l
    simp only [List.map_cons, PyData.depthAll, PyData.depth]
    omega
section
variable {X : Cx} {T : Tx}
theorem k_maxT (hc : X.calm = true) (hu : X.A.units + 64 < cLine) : CallR X (.builtin "max") (rA X.K T (g1 fMaxT)) := cr1 fun pins s σ H v u Q m h0 x d z I ru S rx e1 e2 q => by
  unfold fMaxT at e2
  split at e2
  · rename_i ds
    split at e2
    · rename_i a0 l hn
      cases e2
      obtain ⟨a, vs, rfl, hz, t⟩ := view_tup S rx e1
      have ed := intsOf_some hn
      subst ed
      cases ru
      obtain ⟨as, r⟩ := Dp.reads I (.tuple ((a0 :: l).map .int)) (.ref a) (.ref a) (Rp.dp (.tup hz t)) rfl
      cases r with
      | tuple h1 h2 h3 h4 =>
        refine max_tuple_data (I.ok.hd hc) ⟨_, h1, h2, _, h3⟩ h4 ⟨fun x hx y hy => ?_, fun x hx => ?_⟩ ?_ fun i v h' tk bs hv rv hk => ?_
        · obtain ⟨i, _, rfl⟩ := List.mem_map.mp (show x ∈ (a0 :: l).map PyData.int from hx)
          obtain ⟨j, _, rfl⟩ := List.mem_map.mp (show y ∈ (a0 :: l).map PyData.int from hy)
          rfl
        · obtain ⟨i, _, rfl⟩ := List.mem_map.mp (show x ∈ (a0 :: l).map PyData.int from hx)
          exact fun z => nomatch z
        · have := depth_ints (a0 :: l)
          show X.A.units + 1 + PyData.depthAll ((a0 :: l).map .int) < cLine
          omega
        · rw [maxD_ints] at rv
          cases rv
          exact ⟨.int _, H, I.kept (t' := tk) hk, ⟨_, rfl⟩, q m H (Ext.refl _ _) S _ (.int _)⟩
    · cases e2
  · cases e2
/-- a list or a tuple -/
def fMax1 : PyData → Option PyData := fun d => match fMaxL d with
  | some z => some z
  | none => fMaxT d
theorem k_max1 (hc : X.calm = true) (hu : X.A.units + 64 < cLine) : CallR X (.builtin "max") (rA X.K T (g1 fMax1)) := cr1 fun pins s σ H v u Q m h0 x d z I ru S rx e1 e2 q => by
  unfold fMax1 at e2
  cases hL : fMaxL d with
  | some z' =>
    rw [hL] at e2; cases e2
    exact k_maxL (T := T) hc pins s σ H [v] [u] Q I (.cons ru .nil) ⟨m, h0, [x], _, h0, S, .cons rx .nil, g1_ok e1 hL, fun m' H' E S' w r => q m' H' E S' w r⟩
  | none =>
    rw [hL] at e2
    exact k_maxT (T := T) hc hu pins s σ H [v] [u] Q I (.cons ru .nil) ⟨m, h0, [x], .d z, h0, S, .cons rx .nil, g1_ok e1 e2, fun m' H' E S' w r => q m' H' E S' w r⟩
end
end MV
/-! min(xs, default=None), xs a list of ints -/
namespace MV
open PySem PySem.Spec PyProof.Rows L2 PySem.W
def minF (a : Int) (l : List Int) : Int := l.foldl (fun a y => if y < a then y else a) a
theorem minD_ints' : ∀ (l : List Int) (a : Int), minD (.int a) (l.map .int) = .int (minF a l)
  | [], a => rfl
  | b :: l, a => by
    show (l.map PyData.int).foldl (fun a y => if dataLt y a then y else a) (if dataLt (.int b) (.int a) then .int b else .int a) = .int (l.foldl (fun a y => if y < a then y else a) (if b < a then b else a))
    rw [dataLt_int]
    by_cases h : b < a
    · rw [if_pos (by simpa using h), if_pos h]; exact minD_ints' l b
    · rw [if_neg (by simpa using h), if_neg h]; exact minD_ints' l a
def fMinDN : PyData → Option PyData
  | .list ds => match intsOf ds with
    | some [] => some .none
    | some (a :: l) => some (.int (minF a l))
    | none => none
  | _ => none
section
variable {X : Cx} {T : Tx} {W : WX} {p pos kpos cpos : Pos} {e : Expr} {ce : CE}
theorem k_minDN (hc : X.calm = true) (hu : X.A.units + 64 < cLine) : CallRK X (.builtin "min") [Str.ofString "default"] (fun vs zs H Q => zs = [.non] ∧ rA X.K T (g1 fMinDN) vs H Q) := by
  intro pins s σ H xs zs us ws Q I rx rz h
  obtain ⟨ez, m, h0, ys, z, h', S, rv, e, q⟩ := h
  subst ez
  obtain ⟨x, d, c, rfl, e1, e2, rfl, rfl⟩ := g1_some e
  obtain ⟨v, rfl, r1⟩ := paired1 rv
  obtain ⟨u, rfl, ru⟩ := vals1 rx
  obtain ⟨uz, rfl, ruz⟩ := vals1 rz
  cases ruz
  unfold fMinDN at e2
  split at e2
  · rename_i ds
    have key : ∀ ns : List Int, intsOf ds = some ns → c = (match ns with | [] => PyData.none | a :: l => .int (minF a l)) → wpAny (model X.prog X.w) X.A (call (.builtin "min") [u] ([Str.ofString "default"].zip [Value.none])) (EP X pins σ Q) X.xe s := by
      intro ns hn ec
      obtain ⟨a, vs, rfl, hs, t⟩ := view_list S r1 e1
      have ed := intsOf_some hn
      subst ed
      cases ru
      obtain ⟨as, r⟩ := Dp.reads I (.list (ns.map .int)) (.ref a) (.ref a) (.lst hs (RpL.dp t)) rfl
      cases r with
      | list h1 h2 h3 h4 =>
        refine min_list_default (I.ok.hd hc) ⟨_, h1, h2, _, h3⟩ h4 ⟨fun x hx y hy => ?_, fun x hx => ?_⟩ ?_ (fun h0 h' tk hk => ?_) fun y ys i v h' tk bs exs hv rv hk => ?_
        · obtain ⟨i, _, rfl⟩ := List.mem_map.mp (show x ∈ ns.map PyData.int from hx)
          obtain ⟨j, _, rfl⟩ := List.mem_map.mp (show y ∈ ns.map PyData.int from hy)
          rfl
        · obtain ⟨i, _, rfl⟩ := List.mem_map.mp (show x ∈ ns.map PyData.int from hx)
          exact fun z => nomatch z
        · have := depth_ints ns
          show X.A.units + 1 + PyData.depthAll (ns.map .int) < cLine
          omega
        · have : ns = [] := by simpa using h0
          subst this
          subst ec
          exact ⟨.non, H, I.kept (t' := tk) hk, rfl, q m H (Ext.refl _ _) S _ .non⟩
        · cases ns with
          | nil => cases exs
          | cons b l =>
            have exs' : PyData.int b :: l.map PyData.int = y :: ys := exs
            cases exs'
            rw [minD_ints'] at rv
            cases rv
            subst ec
            exact ⟨.int _, H, I.kept (t' := tk) hk, ⟨_, rfl⟩, q m H (Ext.refl _ _) S _ (.int _)⟩
    split at e2
    · rename_i hn
      cases e2
      exact key [] hn rfl
    · rename_i a l hn
      cases e2
      exact key _ hn rfl
    · cases e2
  · cases e2
def cMinDN (ce : CE) : CE := fun σ => bnd (ce σ) fun x => lift (g1 fMinDN [x])
theorem re_minDN {j} (hc : X.calm = true) (hu : X.A.units + 64 < cLine) (hg : Gl X "min") (hm : X.mg "min" = none) (he : RE X T W e ce) (hse : starEach (e :: []) X.env = (false, eval e X.env) :: starEach [] X.env := by rfl)
    (hb : backTo pos (starEach (e :: []) X.env) = (false, eval e X.env) :: backTo pos (starEach [] X.env) := by rfl) (hpl : (backTo pos (starEach (e :: []) X.env)).any (·.1) = false := by rfl)
    (hall : (backToKw pos (keywordEach [⟨some "default", .Constant .none j cpos, kpos⟩] X.env)).all (·.1.isSome) = true := by rfl) (hnone : (backToKw pos (keywordEach [⟨some "default", .Constant .none j cpos, kpos⟩] X.env)).any (·.1.isNone) = false := by rfl) (hks : (backToKw pos (keywordEach [⟨some "default", .Constant .none j cpos, kpos⟩] X.env)).filterMap (·.1) = [Str.ofString "default"] := by rfl) :
    RE X T W (.Call (.Name "min" p) [e] [⟨some "default", .Constant .none j cpos, kpos⟩] pos) (cMinDN ce) :=
  ⟨PE.imp (pe_callBK (k_minDN (T := T) hc hu) hg hm (by first | rfl | decide +kernel) (pa_cons he.pe pa_nil hse) (pk_cons pe_non pk_nil) (by first | decide +kernel | decide) (by first | decide +kernel | decide) hb hpl hall hnone hks) fun σ H Q h => by
    refine tAny_bind h fun m h1 H1 σa x v S RS r A => ?_
    obtain ⟨z, h3, e, q⟩ := A.lifted
    exact ⟨rfl, m, h1, [x], z, h3, S, .cons r .nil, e, fun m' H' E S v rv => q m' H' E S v rv⟩⟩
end
end MV
/-! sum of a list or a tuple of ints -/
namespace MV
open PySem PySem.Spec PyProof.Rows L2
section
variable {prog : Program} {w : World} {A : Around} {E : Value → Shared → Prop} {s : Shared} {l : Addr} {its : List Value} {ns : List Int} {Q : Value → Shared → Prop}
theorem sum_rawT (hh : A.handled = none) (hl : s.heap.IsTuple l its.toArray) (hi : IntsAre its ns)
    (h : ∀ h' tk t', (∀ b o, s.heap.get? b = some o → h'.get? b = some o) → Q (.int ns.sum t') { s with heap := h', toks := tk }) : wpAny (model prog w) A (call (.builtin "sum") [.ref l]) Q E s := by
  obtain ⟨xs, e⟩ := hi.allInts.items
  have hn : numsOf (intItems xs).toList = ns := by rw [← e]; exact hi.numsOf
  rw [nums_intItems] at hn
  rw [e] at hl
  refine PySem.W.ktm_sumG hh hl fun h' tk t' hk => ?_
  have := h h' tk t' hk
  rw [preSum_eq, List.take_of_length_le (by simp), hn]; exact this
end
section
variable {X : Cx} {T : Tx}
def rSumT (K : PySem.W.Frag) : List V → Hp → VK → Prop := fun vs H Q => ∃ (a : Addr) (ns : List Int), vs = [V.ref a] ∧ SqT K H a (ns.map V.int) ∧ Q (.int ns.sum) H
theorem cr_sumT (hc : X.calm = true) : CallR X (.builtin "sum") (rSumT X.K) := by
  intro pins s σ H vs us Q I r h
  obtain ⟨a, ns, rfl, hs, q⟩ := h
  obtain ⟨its, rv, hl, _⟩ := I.tuple hs
  rw [Vals.ref1 r]
  exact sum_rawT (I.ok.hd hc) hl rv.ints fun h' tk t' hk => ⟨.int _, H, I.kept hk, ⟨_, rfl⟩, q⟩
def fSumT : PyData → Option PyData
  | .tuple ds => (intsOf ds).map fun ns => .int ns.sum
  | _ => none
theorem k_sumT (hc : X.calm = true) : CallR X (.builtin "sum") (rA X.K T (g1 fSumT)) := cr1 fun pins s σ H v u Q m h0 x d z I ru S rx e1 e2 q => by
  unfold fSumT at e2
  split at e2
  · rename_i ds
    cases hn : intsOf ds with
    | none => rw [hn] at e2; cases e2
    | some ns =>
      rw [hn] at e2; cases e2
      obtain ⟨a, vs, rfl, hs, t⟩ := view_tup S rx e1
      rw [intsOf_some hn] at t
      rw [rpl_intV t] at hs
      exact cr_sumT hc pins s σ H [_] [u] Q I (.cons ru .nil) ⟨a, ns, rfl, hs.sq, q m H (Ext.refl _ _) S _ (.int _)⟩
  · cases e2
def fSumA : PyData → Option PyData := fun d => match fSum d with
  | some z => some z
  | none => fSumT d
theorem k_sumA (hc : X.calm = true) : CallR X (.builtin "sum") (rA X.K T (g1 fSumA)) := cr1 fun pins s σ H v u Q m h0 x d z I ru S rx e1 e2 q => by
  unfold fSumA at e2
  cases hL : fSum d with
  | some z' =>
    rw [hL] at e2; cases e2
    exact k_sum (T := T) hc pins s σ H [v] [u] Q I (.cons ru .nil) ⟨m, h0, [x], _, h0, S, .cons rx .nil, g1_ok e1 hL, fun m' H' E S' w r => q m' H' E S' w r⟩
  | none =>
    rw [hL] at e2
    exact k_sumT (T := T) hc pins s σ H [v] [u] Q I (.cons ru .nil) ⟨m, h0, [x], .d z, h0, S, .cons rx .nil, g1_ok e1 e2, fun m' H' E S' w r => q m' H' E S' w r⟩
end
end MV
/-! dict(pairs), the keys unlike tuples -/
namespace MV
open PySem PySem.Spec PyProof.Rows L2
section
variable {X : Cx}
abbrev PrT (K : PySem.W.Frag) (H : Hp) : List Addr → List (List Key × Addr × V) → Prop := Paired (fun p kv => SqT K H p [.ref kv.2.1, kv.2.2] ∧ H kv.2.1 = some (.tup (kv.1.map kV)))
theorem pairs_ofT {pins : List (Addr × Obj)} {σ : L2.St} {H : Hp} {s : Shared} (I : Inv X pins σ H s) : ∀ {ps : List Addr} {kvs : List (List Key × Addr × V)}, PrT X.K H ps kvs →
    ∃ prs : List (List Key × Addr × Value), KT H (kvs.map fun x => (x.1, x.2.2)) prs ∧ prs.length = ps.length ∧ prs.map (·.1) = kvs.map (·.1) ∧ ∀ (j : Nat) (q : List Key × Addr × Value), prs[j]? = some q → ∃ b : Addr, ps[j]? = some b ∧ IsTup s.heap b #[.ref q.2.1, q.2.2] ∧ H q.2.1 = some (.tup (q.1.map kV))
  | _, _, .nil => ⟨[], .nil, rfl, rfl, fun j q e => by simp at e⟩
  | _, _, .cons (a := p) (b := kv) h t => by
    obtain ⟨prs, r, hl, hm, hp⟩ := pairs_ofT I t
    obtain ⟨its, rv, ht, _⟩ := I.tuple h.1
    obtain ⟨u, y, ei, ru, ry⟩ := vals2 rv
    subst ei
    obtain rfl : u = Value.ref kv.2.1 := ru
    refine ⟨(kv.1, kv.2.1, y) :: prs, .cons ⟨rfl, h.2, ry⟩ r, by rw [List.length_cons, List.length_cons, hl], by rw [List.map_cons, List.map_cons, hm], fun j q e => ?_⟩
    cases j with
    | zero =>
      have e' : (kv.1, kv.2.1, y) = q := Option.some.inj e
      subst e'
      exact ⟨p, rfl, ht, h.2⟩
    | succ j =>
      obtain ⟨b, e1, e2, e3⟩ := hp j q (by simpa using e)
      exact ⟨b, by simpa using e1, e2, e3⟩
theorem call_dictPT (hcalm : X.calm = true) (hu : X.A.units + 64 < cLine) : CallR X (.type "dict") (fun xs H Q => ∃ (a : Addr) (ps : List Addr) (kvs : List (List Key × Addr × V)), xs = [.ref a] ∧ SqL X.K H a (ps.map V.ref) ∧ PrT X.K H ps kvs ∧ (kvs.map (·.1)).Nodup ∧
    ∀ p, H p = none → Q (.ref p) (upd H p (.dT (kvs.map fun x => (x.1, x.2.2))))) := by
  intro pins s σ H xs us Q I r q
  obtain ⟨a, ps, kvs, ex, hq, hp, hnd, q⟩ := q
  subst ex
  obtain ⟨u, eu, rx⟩ := vals1 r
  subst eu
  cases rx
  obtain ⟨its, rv, pl, hz⟩ := I.list hq
  have ei := refs_at rv
  subst ei
  rw [List.length_map] at hz
  obtain ⟨prs, rel, hl, hm, hpr⟩ := pairs_ofT I hp
  obtain ⟨o, n, ho, hc, hd, hdat⟩ := pl
  have hsz : prs.length ≤ sizeLine := by rw [hl]; exact hz
  refine PySem.call_dict_pairsH (knd := tupleKind (mixKind X.prog X.w)) (ps := prs) (PairArg.list a (ps.map Value.ref).toArray (fun j => ps.getD j 0) (prs.map fun q => (Value.ref q.2.1, q.2.2))) (I.ok.hd hcalm) ?_ ⟨⟨o, n, ho, hc, hd, hdat⟩, ?_, fun j k v e => ?_⟩ ⟨?_, fun i key v e => ?_⟩ (fun h' hk x hx => ?_) ?_ fun h' tk hd' k => ?_
  · show X.A.units + 1 + 1 < cLine
    omega
  · simp [hl]
  · rw [List.getElem?_map] at e
    obtain ⟨q', e1, e2⟩ := Option.map_eq_some_iff.mp e
    cases e2
    obtain ⟨b, e3, e4, _⟩ := hpr j q' e1
    have : ps.getD j 0 = b := by rw [List.getD_eq_getElem?_getD, e3]; rfl
    refine ⟨by simp [e3], ?_⟩
    show PairAt s.heap (ps.getD j 0) _ _
    rw [this]
    exact .inl e4
  · simp
  · have e : (prs.map fun q => (Value.ref q.2.1, q.2.2))[i]? = some (key, v) := e
    rw [List.getElem?_map] at e
    obtain ⟨q', e1, e2⟩ := Option.map_eq_some_iff.mp e
    cases e2
    exact ⟨q'.1, q'.2.1, e1, rfl⟩
  · obtain ⟨j, e⟩ := List.mem_iff_getElem?.mp hx
    obtain ⟨_, _, _, e3⟩ := hpr j x e
    obtain ⟨o1, its1, n1, h1, h2⟩ := key_of I.hok e3
    exact ⟨o1, its1, n1, hk _ _ (Nat.ne_of_lt (Heap.lt_size h1)) (by simp) h1, h2⟩
  · simpa using hsz
  · have hmm : (s.heap.objs.size == sysModules) = false := beq_eq_false_iff_ne.mpr (Nat.ne_of_gt I.big)
    have hnd' : (prs.map (·.1)).Nodup := by rw [hm]; exact hnd
    rw [storedAllH_nil_of_nodup prs hnd'] at hd'
    have hlen : (kvs.map fun x => (x.1, x.2.2)).length ≤ sizeLine := by rw [Paired.len rel]; exact hsz
    have fr : H s.heap.objs.size = none := I.hok.fresh (Nat.le_refl _)
    obtain ⟨o2, es, ep, g1, g2, g3, g4, _, g6⟩ := hd'
    exact ⟨.ref s.heap.objs.size, upd H s.heap.objs.size (.dT (kvs.map fun x => (x.1, x.2.2))), I.laid (t' := tk) (fun b o e => k b o (by simp) e) (Nat.le_refl _) (show ObjOk X.prog X.w _ _ _ (.dT _) from ⟨hlen, hmm, prs, rel.keeps (fun b ys e => by rw [upd_ne (ne_of_none e fr)]; exact e), o2, es, ep, g1, g2, g3, g4, g6⟩), rfl, q _ fr⟩
variable {T : Tx}
def kvD : PyData → Option (List Key × PyData)
  | .tuple [.tuple ks, v] => (keysOf ks).map fun k => (k, v)
  | _ => none
def kvsD : List PyData → Option (List (List Key × PyData))
  | [] => some []
  | d :: ds => match kvD d, kvsD ds with
    | some p, some ps => some (p :: ps)
    | _, _ => none
def gDictP : GA := fun xs h => match xs with
  | [x] => match viewD x h with
    | some (.list ds) => match kvsD ds with
      | some kvs => if (kvs.map (·.1)).Nodup then some (.ref h.length, h ++ [.dT (kvs.map fun p => (p.1, .d p.2))]) else none
      | none => none
    | _ => none
  | _ => none
theorem kvs_rp {K : PySem.W.Frag} {m : MM} {H : Hp} : ∀ {ds : List PyData} {vs : List V} {kvs : List (List Key × PyData)}, RpL K m H ds vs → kvsD ds = some kvs →
    ∃ (ps : List Addr) (es : List (List Key × Addr × V)), vs = ps.map V.ref ∧ PrT K H ps es ∧ es.map (·.1) = kvs.map (·.1) ∧ Paired (fun (p : List Key × PyData) (q : List Key × Addr × V) => p.1 = q.1 ∧ Rp K m H p.2 q.2.2) kvs es
  | [], vs, kvs, r, e => by
    cases e
    cases r
    exact ⟨[], [], rfl, .nil, rfl, .nil⟩
  | d :: ds, vs, kvs, r, e => by
    cases r with
    | cons r1 r2 =>
      unfold kvsD at e
      cases h1 : kvD d with
      | none => rw [h1] at e; cases e
      | some p =>
        cases h2 : kvsD ds with
        | none => rw [h1, h2] at e; cases e
        | some qs =>
          rw [h1, h2] at e
          cases e
          obtain ⟨ps, es, rfl, a, b, c⟩ := kvs_rp r2 h2
          unfold kvD at h1
          split at h1
          · rename_i ks v
            obtain ⟨k, hk, rfl⟩ := Option.map_eq_some_iff.mp h1
            cases r1 with
            | tup f t =>
              rename_i ad xs
              cases t with
              | cons ra t2 =>
                cases t2 with
                | cons rb t3 =>
                  cases t3
                  rename_i va vb
                  obtain ⟨kb, rfl, hb⟩ := kyT_rp (m := m) (x := .d (.tuple ks)) hk ra
                  exact ⟨ad :: ps, (k, kb, vb) :: es, rfl, .cons ⟨f.sq, hb⟩ a, by rw [List.map_cons, List.map_cons, b], .cons ⟨rfl, rb⟩ c⟩
          · cases h1
theorem k_dictP (hc : X.calm = true) (hu : X.A.units + 64 < cLine) : CallR X (.type "dict") (rA X.K T gDictP) := by
  intro pins s σ H vs us Q I r hh
  obtain ⟨m, h0, xs, z, h', S, rv, e, q⟩ := hh
  unfold gDictP at e
  split at e
  · rename_i x
    split at e
    · rename_i ds hv
      split at e
      · rename_i kvs hk
        split at e
        · rename_i hnd
          cases e
          obtain ⟨v, rfl, rx⟩ := paired1 rv
          obtain ⟨a, ws, rfl, hs, t⟩ := view_list S rx hv
          obtain ⟨ps, es, rfl, p1, p2, p3⟩ := kvs_rp t hk
          refine call_dictPT hc hu pins s σ H _ us Q I r ⟨a, ps, es, rfl, hs, p1, by rw [p2]; exact hnd, fun p hp => ?_⟩
          refine q (m ++ [some p]) _ (Ext.push S hp) (S.pushC hp (.dT upd_same ?_)) _ (rep_push S)
          have E : Ext m H (m ++ [some p]) (upd H p (.dT (es.map fun x => (x.1, x.2.2)))) := Ext.push S hp
          generalize upd H p (.dT (es.map fun x => (x.1, x.2.2))) = H2 at E
          clear hk hnd p1 p2 t hs q rx rv r hv
          induction p3 with
          | nil => exact .nil
          | cons h _ ih => exact .cons ⟨h.1, Rp.mono E h.2⟩ ih
        · cases e
      · cases e
    · cases e
  · cases e
end
end MV
/-! min(d.values()), the keys tuples, the values ints -/
namespace MV
open PySem PySem.Spec PyProof.Rows L2
def tMinValsT (td : TE) : TE := fun σ H Q => td σ H fun x H1 => ∃ a kvs is, x = V.ref a ∧ H1 a = some (.dT kvs) ∧ kvs.map (·.2) = is.map V.int ∧ is ≠ [] ∧ ∀ m, m ∈ is → (∀ j ∈ is, m ≤ j) → Q (.int m) H1
theorem KT.at' {H : Hp} {kvs : List (List Key × V)} {xs : List (List Key × Addr × Value)} (r : KT H kvs xs) : ∀ {i : Nat} {x : List Key × Addr × Value}, xs[i]? = some x → ∃ p, kvs[i]? = some p ∧ RelV p.2 x.2.2 := by
  unfold KT at r
  induction r with
  | nil => intro i x e; simp at e
  | cons r t ih =>
    intro i x e
    cases i with
    | zero =>
      have e' := Option.some.inj (show some _ = some x from e)
      subst e'
      exact ⟨_, rfl, r.2.2⟩
    | succ i =>
      obtain ⟨p, h1, h2⟩ := ih (i := i) (x := x) (by simpa using e)
      exact ⟨p, by simpa using h1, h2⟩
section
variable {X : Cx} {T : Tx} {W : WX} {o : Expr} {p pos apos mpos : Pos} {td : TE} {co : CE}
theorem pe_minValsT (hc : X.calm = true) (hg : Gl X "min") (hm : X.mg "min" = none) (hd : PE X o td) (hbase : attributeBase o "values" X.env (eval o X.env) = eval o X.env := by rfl) (hline : (apos.endLine == mpos.line) = true := by rfl)
    (hse : starEach [Expr.Call (.Attribute o "values" apos) [] [] mpos] X.env = [(false, eval (Expr.Call (.Attribute o "values" apos) [] [] mpos) X.env)] := by rfl) :
    PE X (.Call (.Name "min" p) [.Call (.Attribute o "values" apos) [] [] mpos] [] pos) (tMinValsT td) := by
  refine ⟨fun pins s σ H Q I h => ?_⟩
  refine wpAny_Call_Name_kw (ld_blt I hg hm (u := .builtin "min") (by first | rfl | decide +kernel) ?_ (by first | decide +kernel | decide) (by first | decide +kernel | decide))
  rw [hse]
  refine PySem.callWith_builtin1 (wpAny_Call_method0_late hbase hline (thn (hd.run pins s σ H _ I h) fun v s1 ⟨x, H1, I1, r1, a, kvs, is, ex, ha, hv, hne, q⟩ => ?_))
  subst ex
  obtain rfl : v = Value.ref a := r1
  obtain ⟨_, hsys, xs, rel, dof⟩ := dt_of I1.hok ha
  obtain ⟨ob, es, ep, ho, hx, hdat, hes, _, _⟩ := dof
  have raw : s1.heap.DictRaw a es ep := ⟨ob, ho, hx, hdat⟩
  refine ⟨"dict", "dict.values", F.plainAttrs_dict, F.slot_dict_values, F.type_dict_values, raw.typeIs, fun b e => ?_, Calls.callWith_builtin rfl (PySem.evalArgs_none ?_)⟩
  · cases e
    exact ⟨ob, ho, hx.2.1⟩
  refine call_meetsIn F.slot_dict_values raw.typeIs F.entry_dict_values (F.args_dict_values_1 _) (meets_dict_values_raw a hsys) ⟨⟨es, ep, raw⟩, ?_⟩
  have k1 : ∀ b u, s1.heap.get? b = some u → (s1.heap.push { cls := .type "dict_values", data := .fields #[.ref a] }).get? b = some u := fun b u e => Heap.get?_push_of_some _ e
  have raw1 : (s1.heap.push { cls := .type "dict_values", data := .fields #[.ref a] }).DictRaw a es ep := raw.at fun o e => k1 _ _ e
  have hln : es.size = xs.length := by rw [← Array.length_toList, hes, List.length_map]
  have hlx : xs.length = is.length := by
    have e1 := congrArg List.length hv
    rw [List.length_map, List.length_map] at e1
    rw [← e1]
    exact (Paired.len rel).symm
  have hlen : 0 < es.size := by
    rw [hln, hlx]
    exact List.length_pos_iff.mpr hne
  have hent : ∀ i (hi : i < es.size), ∃ y, xs[i]? = some y ∧ es[i].key = .ref y.2.1 ∧ es[i].val = y.2.2 := fun i hi => by
    have e1 : es.toList[i]? = some es[i] := by rw [Array.getElem?_toList, Array.getElem?_eq_getElem hi]
    rw [hes, List.getElem?_map] at e1
    obtain ⟨y, e2, e3⟩ := Option.map_eq_some_iff.mp e1
    exact ⟨y, e2, by rw [← e3] <;> rfl, by rw [← e3] <;> rfl⟩
  have hval : ∀ (i : Nat) (v : Value), (∃ y, xs[i]? = some y ∧ v = y.2.2) → ∃ t, v = Value.int (is.getD i 0) t := fun i v ⟨y, hk, e0⟩ => by
    obtain ⟨pp, h1, h2⟩ := KT.at' rel hk
    have e1 : (kvs.map (·.2))[i]? = some pp.2 := by rw [List.getElem?_map, h1] <;> rfl
    rw [hv, List.getElem?_map] at e1
    obtain ⟨j, hj, e2⟩ := Option.map_eq_some_iff.mp e1
    rw [← e2] at h2
    obtain ⟨t, e3⟩ := h2
    refine ⟨t, ?_⟩
    rw [e0, e3, List.getD_eq_getElem?_getD, hj] <;> rfl
  refine call_min_walk (wpAny_pyIter_values_raw (v := s1.heap.objs.size) (d := a) ⟨_, Heap.get?_push_size _ rfl, rfl, rfl⟩ raw1 ?_)
  have hlt : a < s1.heap.objs.size := Heap.lt_size ho
  have hsz : (s1.heap.push { cls := .type "dict_values", data := .fields #[.ref a] }).objs.size = s1.heap.objs.size + 1 := Heap.size_push _ _
  refine ⟨_, _, _, _, _, _, _, rfl, Walks.valuesH (A := X.A.in1) (I.ok.hd hc) (s1.heap.push { cls := .type "dict_values", data := .fields #[.ref a] }).objs.size a (by rw [hsz]; exact Nat.ne_of_lt (Nat.lt_succ_of_lt hlt)) es ep hent,
    ⟨⟨_, Heap.get?_push_size _ rfl, rfl, rfl⟩, raw1.at fun u e => Heap.get?_push_of_some _ e⟩, fun b hb => ?_, hlen, CmpOf.ints_lt (fun i => is.getD i 0) hval, fun v h' tk hP hk => ?_⟩
  · show b < ((s1.heap.push _).push _).objs.size
    rw [Heap.size_push, Heap.size_push]
    rw [hsz] at hb
    rcases List.mem_cons.mp hb with e | hb
    · rw [e]
      exact Nat.lt_succ_self _
    · have e : b = a := List.mem_singleton.mp hb
      rw [e]
      exact Nat.lt_succ_of_lt (Nat.lt_succ_of_lt hlt)
  · obtain ⟨t, rfl⟩ := hval _ v hP
    obtain ⟨b1, b2⟩ := argBest_lt (fun i => is.getD i 0) (es.size - 1)
    refine ⟨.int _, H1, I1.kept (t' := tk) fun b u e => hk b u (fun hmem => ?_) (Heap.get?_push_of_some _ (k1 b u e)), ⟨t, rfl⟩, q _ ?_ fun j hj => ?_⟩
    · have e1 : b = (s1.heap.push { cls := .type "dict_values", data := .fields #[.ref a] }).objs.size := List.mem_singleton.mp hmem
      have e2 := Heap.lt_size e
      rw [hsz] at e1
      rw [e1] at e2
      exact absurd e2 (Nat.not_lt.mpr (Nat.le_succ _))
    · have hb : argBest (fun i j => decide (is.getD i 0 < is.getD j 0)) (es.size - 1) < is.length := by omega
      rw [List.getD_eq_getElem?_getD, List.getElem?_eq_getElem hb]
      exact List.getElem_mem hb
    · obtain ⟨i, hi, e⟩ := List.mem_iff_getElem.mp hj
      have e2 : is.getD i 0 = j := by rw [List.getD_eq_getElem?_getD, List.getElem?_eq_getElem hi, ← e] <;> rfl
      rw [← e2]
      exact b2 i (by omega)
/-- the ints of the values -/
def valsI : List (List Key × Val) → Option (List Int)
  | [] => some []
  | (_, .d (.int i)) :: r => (valsI r).map (i :: ·)
  | _ => none
def gMinV (x : Val) : O Val := fun h => match x with
  | .ref l => match h[l]? with
    | some (.dT kvs) => match valsI kvs with
      | some (a :: l) => some (.d (.int (minL (a :: l))), h)
      | _ => none
    | _ => none
  | _ => none
def cMinV (co : CE) : CE := fun σ => bnd (co σ) fun x => lift (gMinV x)
theorem valsI_rp {K : PySem.W.Frag} {m : MM} {H : Hp} : ∀ {kvs : List (List Key × Val)} {ws : List (List Key × V)} {is : List Int}, Paired (fun (p : List Key × Val) (q : List Key × V) => p.1 = q.1 ∧ RepV K m H p.2 q.2) kvs ws → valsI kvs = some is → ws.map (·.2) = is.map V.int
  | [], _, is, .nil, e => by cases e; rfl
  | (k, v) :: r, _, is, .cons (b := q) h t, e => by
    cases v with
    | d y =>
      cases y with
      | int i =>
        unfold valsI at e
        obtain ⟨js, h1, rfl⟩ := Option.map_eq_some_iff.mp e
        have := valsI_rp t h1
        have h2 : Rp K m H (.int i) q.2 := h.2
        rw [List.map_cons, List.map_cons, this]
        generalize q.2 = z at h2
        cases h2
        rfl
      | _ => cases e
    | _ => cases e
theorem minL_is : ∀ (l : List Int) (a : Int), minL (a :: l) ∈ a :: l ∧ ∀ x ∈ a :: l, minL (a :: l) ≤ x
  | [], a => ⟨by simp [minL], by simp [minL]⟩
  | b :: l, a => by
    obtain ⟨h1, h2⟩ := minL_is l b
    have e : minL (a :: b :: l) = if minL (b :: l) < a then minL (b :: l) else a := rfl
    rw [e]
    by_cases h : minL (b :: l) < a
    · rw [if_pos h]
      refine ⟨List.mem_cons_of_mem _ h1, fun x hx => ?_⟩
      rcases List.mem_cons.mp hx with rfl | hx
      · omega
      · exact h2 x hx
    · rw [if_neg h]
      refine ⟨List.mem_cons_self, fun x hx => ?_⟩
      rcases List.mem_cons.mp hx with rfl | hx
      · omega
      · have := h2 x hx; omega
theorem min_uniq {l : List Int} {m k : Int} (h1 : m ∈ l) (h2 : ∀ x ∈ l, m ≤ x) (h3 : k ∈ l) (h4 : ∀ x ∈ l, k ≤ x) : m = k := Int.le_antisymm (h2 k h3) (h4 m h1)
theorem re_minV (C : Cok X W k) (hg : Gl X "min") (hm : X.mg "min" = none) (he : RE X T W o co) (hbase : attributeBase o "values" X.env (eval o X.env) = eval o X.env := by rfl) (hline : (apos.endLine == mpos.line) = true := by rfl)
    (hse : starEach [Expr.Call (.Attribute o "values" apos) [] [] mpos] X.env = [(false, eval (Expr.Call (.Attribute o "values" apos) [] [] mpos) X.env)] := by rfl) :
    RE X T W (.Call (.Name "min" p) [.Call (.Attribute o "values" apos) [] [] mpos] [] pos) (cMinV co) :=
  ⟨PE.imp (pe_minValsT C.calm hg hm he.pe hbase hline hse) fun σ H Q h => by
    refine tAny_bind h fun m h1 H1 σa x v S RS r A => ?_
    obtain ⟨z, h', e, q⟩ := A.lifted
    unfold gMinV at e
    split at e
    · rename_i l
      split at e
      · rename_i kvs hl
        split at e
        · rename_i a0 l0 hv
          cases e
          obtain ⟨a, ws, rfl, em, ha, hr⟩ := cell_dT S r hl
          obtain ⟨m1, m2⟩ := minL_is l0 a0
          refine ⟨a, ws, a0 :: l0, rfl, ha, valsI_rp hr hv, by simp, fun mm h1 h2 => ?_⟩
          rw [min_uniq h1 h2 m1 m2]
          exact q m H1 (Ext.refl _ _) S _ (.int _)
        · cases e
      · cases e
    · cases e⟩
end
end MV
/-! defs that take data and give data without lists: they run on a heap of their own -/
namespace MV
open PySem PySem.Spec PyProof.Rows L2
mutual
def noL : PyData → Bool
  | .list _ => false
  | .tuple ds => noLs ds
  | _ => true
def noLs : List PyData → Bool
  | [] => true
  | d :: ds => noL d && noLs ds
end
def noLV : Val → Bool
  | .d x => noL x
  | _ => false
def cPure (c : List Val → M Val) : List Val → M Val := fun as h => match allD as with
  | none => none
  | some _ => match c as [] with
    | some (.ok (.d x), _) => if noL x = true then some (.ok (.d x), h) else none
    | _ => none
section
variable {K : PySem.W.Frag} {T : Tx}
mutual
theorem Rp.bare {m H} : ∀ {d v}, Rp K m H d v → Rp K [] H d v
  | _, _, .non => .non
  | _, _, .bl b => .bl b
  | _, _, .int i => .int i
  | _, _, .str x => .str x
  | _, _, .lst h t => .lst ⟨h.1, by simp⟩ (RpL.bare t)
  | _, _, .tup h t => .tup ⟨h.1, by simp⟩ (RpL.bare t)
theorem RpL.bare {m H} : ∀ {d v}, RpL K m H d v → RpL K [] H d v
  | _, _, .nil => .nil
  | _, _, .cons h t => .cons (Rp.bare h) (RpL.bare t)
end
theorem allD_bare {m H} : ∀ {as : List Val} {vs : List V} {ds : List PyData}, RepVs K m H as vs → allD as = some ds → RepVs K [] H as vs
  | _, _, _, .nil, _ => .nil
  | .d x :: r, _, ds, .cons h t, e => by
    unfold allD at e
    cases q : allD r with
    | none => rw [q] at e; cases e
    | some ys => exact .cons (Rp.bare h) (allD_bare t q)
  | .ref l :: r, _, ds, .cons h t, e => by unfold allD at e; cases e
  | .fl l :: r, _, ds, .cons h t, e => by unfold allD at e; cases e
/-- what holds over no cells holds over the cells of before -/
theorem sim_over {m h H m' h' H'} (S : Sim K T m h H) (E : Ext [] H m' H') (S' : Sim K T m' h' H') : Ext m H m H' ∧ Sim K T m h H' := by
  have E2 : Ext m H m H' := ⟨⟨⟨Nat.le_refl _, fun _ _ _ e => e, fun a o e n n2 hm => ⟨(E.keep a o e n n2 (by simp)).1, hm⟩⟩, E.frz⟩, E.ext⟩
  refine ⟨E2, Paired.mem_map S.cell fun c x hx q => q.mono E2 fun a ea => ?_, S.inj, S'.tab⟩
  subst ea
  obtain ⟨o, e, n, n2⟩ := q.solid
  rw [e]
  exact (E.keep a o e n n2 (by simp)).1
theorem cell_no_tup {m h H} (S : Sim K T m h H) {a : Addr} {xs : List V} (e : H a = some (.tup xs)) : some a ∉ m := fun hm => by
  obtain ⟨l, e1⟩ := List.mem_iff_getElem?.mp hm
  obtain ⟨c, _, ok⟩ := S.of e1
  cases ok with
  | lst q _ => rw [e] at q; cases q
  | dK q _ => rw [e] at q; cases q
  | dT q _ => rw [e] at q; cases q
  | ins q _ => rw [e] at q; cases q
  | lT q _ => rw [e] at q; cases q
  | lK q _ => rw [e] at q; cases q
  | lL q _ => rw [e] at q; cases q
mutual
theorem Rp.over {m h H m'} (S : Sim K T m h H) : ∀ {d v}, noL d = true → Rp K m' H d v → Rp K m H d v
  | _, _, _, .non => .non
  | _, _, _, .bl b => .bl b
  | _, _, _, .int i => .int i
  | _, _, _, .str x => .str x
  | .list _, _, n, .lst h t => by unfold noL at n; cases n
  | .tuple _, _, n, .tup h t => .tup ⟨h.1, cell_no_tup S h.1⟩ (RpL.over S (by unfold noL at n; exact n) t)
theorem RpL.over {m h H m'} (S : Sim K T m h H) : ∀ {d v}, noLs d = true → RpL K m' H d v → RpL K m H d v
  | _, _, _, .nil => .nil
  | _ :: _, _, n, .cons h t => by
    unfold noLs at n
    rw [Bool.and_eq_true] at n
    exact .cons (Rp.over S n.1 h) (RpL.over S n.2 t)
end
end
section
variable {P : Program} {w : World} {K : PySem.W.Frag} {T : Tx} {mg : Str → Option Value} {base : Heap}
theorem spF_pure {n : Nat} {c : List Val → M Val} {vs H Q E} (s : spF K T n (cPure c) vs H Q E) : spF K T n c vs H Q E := by
  obtain ⟨m, h, as, S, r, hl, A⟩ := s
  obtain ⟨o, h1, e, q⟩ := A
  unfold cPure at e
  cases ha : allD as with
  | none => rw [ha] at e; cases e
  | some ds =>
    rw [ha] at e
    dsimp only at e
    cases hc : c as [] with
    | none => rw [hc] at e; cases e
    | some p =>
      obtain ⟨o2, h2⟩ := p
      rw [hc] at e
      cases o2 with
      | exn k fs => cases e
      | ok v =>
        cases v with
        | ref l => cases e
        | fl l => cases e
        | d x =>
          dsimp only at e
          by_cases hn : noL x = true
          · rw [if_pos hn] at e
            cases e
            refine ⟨[], [], as, ⟨.nil, fun l l' a e => by simp at e, S.tab⟩, allD_bare r ha, hl, _, _, hc, fun m' H' E' S' v rv => ?_⟩
            obtain ⟨E2, S2⟩ := sim_over S E' S'
            exact q m H' E2 S2 v (Rp.over S2 hn rv)
          · rw [if_neg hn] at e; cases e
theorem fo_pure {x : Str} {ps : List Str} {k : Nat} {c : List Val → M Val} (F : FO P w K T mg base k x ps c) : FO P w K T mg base k x ps (cPure c) := FnOk.imp F fun _ _ _ _ s => spF_pure s
end
end MV
/-! min(xs, key=f), xs a list of data, f a def of the text whose answers are ints -/
namespace MV
open PySem PySem.Spec PyProof.Rows L2 PySem.W
section
variable {X : Cx} {T : Tx} {W : WX} {pins : List (Addr × Obj)} {σ : L2.St} {H : Hp} {s : Shared} {f : Addr} {fd : FuncData} {ps : List Str} {j k : Nat} {c : List Val → M Val}
/-- a def called from within a built-in -/
theorem callF_in1 {sp : Sp} {Q : VK} {us : List Value} {vs : List V} (F : FnOk X.prog X.w X.K X.mg X.base (L2.CX X.prog X.w) k f fd ps sp) (hr : Room (k + 1) X.A) (hb : Binds X.K fd ps []) (I : L2.Inv X pins σ H s) (r : Vals vs us) (h : sp vs H Q fun _ _ _ => False) :
    wpAny (model X.prog X.w) X.A.in1 (call (.ref f) us) (fun u s' => L2.CE X.stack X.prog X.w H s Q u s') NoE s := by
  have hl : (us ++ []).length = ps.length := by rw [List.append_nil, ← r.length]; exact F.len _ _ _ _ h
  have hb' := hb s us I.kIn hl
  rw [List.append_nil] at hb'
  refine wpAny_call (codeAny_mono (F.run X.A.in1 X.stack s H ⟨us, []⟩ us vs Q _ hr.in1 I.env0.in1 hb' r h) fun r s' hq => ?_)
  cases r with
  | error e => exact False.elim (cx_none hq)
  | ok fl =>
    cases fl with
    | ret u => exact hq
    | next => exact False.elim hq
    | brk => exact False.elim hq
    | cont => exact False.elim hq
theorem fpOk_stk (I : L2.Inv X pins σ H s) {H' : Hp} {b : Addr} (f : FpOk X pins H' b) : b ∉ frs X.stack := by
  rcases I.ok.stk with e | ⟨e, e2⟩
  · rw [e]; exact f.2.2.1
  · rw [e]
    unfold frs
    rw [List.filterMap_cons, e2]
    intro hm
    rcases List.mem_cons.mp hm with z | z
    · exact f.2.1 z
    · exact f.2.2.1 z
/-- a list is walked; its items may be told anew -/
theorem walk_re {prog : Program} {w : World} {A : Around} (hh : A.handled = none) (Ia a : Addr) (hne : a ≠ Ia) (xs : List V) :
    WalksS prog w A Ia [Ia, a] [Ia] (fun x y => y = x) xs.length (fun i v => ∃ y, xs[i]? = some y ∧ RelV y v) (fun i s => s.heap.IsListIter Ia a i ∧ ∃ its : List Value, s.heap.IsList a its.toArray ∧ Vals xs its) where
  sub := fun b hb => by simp at hb; simp [hb]
  grefl := fun _ => rfl
  gtrans := fun _ _ _ h1 h2 => h2.trans h1
  frame := fun i s h' tk st htk hk => by
    obtain ⟨h1, its, h2, r⟩ := st
    have q := (Walks.list (prog := prog) (w := w) (A := A) hh Ia a hne its.toArray).toS.frame i s h' tk ⟨h1, h2⟩ htk hk
    exact ⟨q.1, its, q.2, r⟩
  item := fun i s Q E hi st hQ => by
    obtain ⟨h1, its, h2, r⟩ := st
    refine (Walks.list (prog := prog) (w := w) (A := A) hh Ia a hne its.toArray).toS.item i s Q E (by simpa [← r.length] using hi) ⟨h1, h2⟩ fun v s' hP st' hm => ?_
    refine hQ v s' ?_ ⟨st'.1, its, st'.2, r⟩ hm
    obtain ⟨u, e1, e2⟩ := r.get (List.getElem?_eq_getElem hi)
    have e3 : its[i]? = some v := by simpa using hP
    rw [e1] at e3
    cases e3
    exact ⟨_, List.getElem?_eq_getElem hi, e2⟩
  done := fun s Q E st hQ => by
    obtain ⟨h1, its, h2, r⟩ := st
    have e : its.toArray.size = xs.length := by simp [r.length]
    exact (Walks.list (prog := prog) (w := w) (A := A) hh Ia a hne its.toArray).toS.done s Q E (by rw [e]; exact ⟨h1, h2⟩) hQ
  self := fun i s Q E st hQ => by
    obtain ⟨h1, its, h2, r⟩ := st
    exact (Walks.list (prog := prog) (w := w) (A := A) hh Ia a hne its.toArray).toS.self i s Q E ⟨h1, h2⟩ hQ
def keyC (c : List Val → M Val) (d : PyData) : Option Int := match c [.d d] [] with
  | some (.ok (.d (.int k)), _) => some k
  | _ => none
def keysC (c : List Val → M Val) : List PyData → Option (List Int)
  | [] => some []
  | d :: ds => match keyC c d, keysC c ds with
    | some k, some ks => some (k :: ks)
    | _, _ => none
def leastAt (ks : List Int) : Nat := argBest (fun i j => decide (ks.getD i 0 < ks.getD j 0)) (ks.length - 1)
def gMinK (c : List Val → M Val) : GA := fun xs h => match xs with
  | [.d (.list ds)] => match keysC c ds with
    | some (k :: ks) => (ds[leastAt (k :: ks)]?).map fun d => (.d d, h)
    | _ => none
  | _ => none
theorem keyC_some {d : PyData} {k : Int} (e : keyC c d = some k) : ∃ h', c [.d d] [] = some (.ok (.d (.int k)), h') := by
  unfold keyC at e
  split at e
  · rename_i k' h' he
    cases e
    exact ⟨h', he⟩
  · cases e
theorem keysC_at : ∀ {ds : List PyData} {ks : List Int}, keysC c ds = some ks → ds.length = ks.length ∧ ∀ (i : Nat) (d : PyData), ds[i]? = some d → keyC c d = some (ks.getD i 0)
  | [], ks, e => by cases e; exact ⟨rfl, fun i d h => by simp at h⟩
  | d :: ds, ks, e => by
    unfold keysC at e
    split at e
    · rename_i k ks' e1 e2
      cases e
      obtain ⟨hl, hk⟩ := keysC_at e2
      refine ⟨by rw [List.length_cons, List.length_cons, hl], fun i d' h => ?_⟩
      cases i with
      | zero => simp at h; subst h; simpa using e1
      | succ i => simpa using hk i d' (by simpa using h)
    · cases e
theorem k_minK (hc : X.calm = true) (F : FOk X.prog X.w X.K T X.mg X.base k f fd ps c) (h1 : ps.length = 1) (hr : Room (k + 1) X.A) (hb : Binds X.K fd ps []) : CallRK X (.builtin "min") [Str.ofString "key"] (fun vs zs H Q => zs = [.ref f] ∧ rA X.K T (gMinK c) vs H Q) := by
  intro pins s σ H xs0 zs us ws Q I rx rz h
  obtain ⟨ez, m, h0, ys, z, h', S, rv, e, q⟩ := h
  subst ez
  obtain ⟨uz, rfl, ruz⟩ := vals1 rz
  obtain rfl : uz = Value.ref f := ruz
  unfold gMinK at e
  split at e
  · rename_i ds
    split at e
    · rename_i k0 ks hks
      obtain ⟨d, hd, ed⟩ := Option.map_eq_some_iff.mp e
      cases ed
      obtain ⟨v, rfl, r1⟩ := paired1 rv
      obtain ⟨u, rfl, ru⟩ := vals1 rx
      cases (show Rp X.K m H (.list ds) v from r1) with
      | @lst a xs _ ha hx =>
        obtain rfl : u = Value.ref a := ru
        obtain ⟨hlen, hkey⟩ := keysC_at hks
        have hxl : ds.length = xs.length := RpL.length hx
        have hss : SqL X.K H a xs := (TrL.fz (K := X.K) ha).sq
        obtain ⟨its, rvs, pl, hz⟩ := I.list hss
        have hh : X.A.handled = none := I.ok.hd hc
        have hlt : a < s.heap.objs.size := by obtain ⟨_, e, _⟩ := pl.isList; exact Heap.lt_size e
        show wpAny (model X.prog X.w) X.A (call (.builtin "min") [.ref a] [(Str.ofString "key", .ref f)]) (EP X pins σ Q) X.xe s
        refine call_min_walkK (iter_listW (A := X.A.in1) hh pl.isList fun s2 e2 _ st hfp hw hk2 => ?_)
        generalize hIa : s.heap.objs.size = Ia at *
        have hsz2 : s2.heap.objs.size = Ia + 1 := by rw [e2]; show (s.heap.push _).objs.size = _; rw [Heap.size_push, hIa]
        generalize hSa : s2.heap.objs.size = Sa at *
        have hIS : Ia ≠ Sa := by omega
        have hne : a ≠ Ia := Nat.ne_of_lt hlt
        let J : Shared → Prop := fun s' => ∃ H', L2.Inv X pins σ H' s' ∧ Ext m H m H' ∧ Sim X.K T m h0 H' ∧ H' Ia = none ∧ H' Sa = none
        have fpI : ∀ {H' : Hp}, H' Ia = none → FpOk X pins H' Ia := fun {H'} n => I.fpOk (by omega) n
        have fpS : ∀ {H' : Hp}, H' Sa = none → FpOk X pins H' Sa := fun {H'} n => I.fpOk (by omega) n
        refine ⟨Ia, [Ia, a], [Ia], fun x y => y = x, xs.length, _, _, J, fun i v _ => ∃ t, v = Value.int ((k0 :: ks).getD i 0) t, fun i j => decide ((k0 :: ks).getD i 0 < (k0 :: ks).getD j 0), rfl, walk_re (A := X.A.in1) hh Ia a hne xs, ⟨st.1, its, st.2, rvs⟩, hfp, by rw [← hxl, hlen]; exact Nat.succ_pos _, ?_, ?_, ?_⟩
        · refine ⟨fun s3 s4 hJ hm => ?_, fun i v s3 s4 hv _ => hv, fun i v s3 o Q3 E3 hi hP hJ hst hS cont => ?_, fun i j ki kj s3 Q3 E3 hJ hi hj hq => ?_⟩
          · obtain ⟨H', I3, E3, S3, n1, n2⟩ := hJ
            obtain ⟨hp4, g4, d4, t4, o4⟩ := s4
            have hg : g4 = s3.gens := hm.gens
            have hdr : d4 = s3.drawn := hm.drawn
            have ho : o4 = s3.os := hm.os
            subst hg hdr ho
            exact ⟨H', I3.turnedL (ch := [Sa, Ia]) (fun b o hb eo => hm.heap b o hb eo) (fun b hb => by
              rcases List.mem_cons.mp hb with rfl | hb
              · exact fpS n2
              · rcases List.mem_cons.mp hb with rfl | hb
                · exact fpI n1
                · cases hb), E3, S3, n1, n2⟩
          · obtain ⟨H', I3, E3', S3, n1, n2⟩ := hJ
            obtain ⟨y, hy, ry⟩ := hP
            obtain ⟨d', hd', rd'⟩ := RpL.getV hx hy
            obtain ⟨h9, hc9⟩ := keyC_some (hkey i d' hd')
            obtain ⟨hit, its3, hl3, rv3⟩ := hst
            refine wpAny_mono (callF_in1 (Q := fun v' H'' => v' = .int ((k0 :: ks).getD i 0) ∧ ∃ m' h', Ext [] H' m' H'' ∧ Sim X.K T m' h' H'') F hr hb I3 (.cons ry .nil) ⟨[], [], [.d d'], ⟨.nil, fun l l' a e => by simp at e, S3.tab⟩, .cons (Rp.bare (Rp.mono E3' rd')) .nil, by rw [h1]; rfl, _, _, hc9, fun m' H'' E9 S9 v' rv' => ?_⟩) (fun u s4 hce => ?_) fun _ _ (z : False) => z.elim
            · cases rv'
              exact ⟨rfl, m', h9, E9, S9⟩
            · obtain ⟨v', H'', os4, bare4, un4, hok4, rel4, ev', m', h9', E9, S9⟩ := hce
              subst ev'
              obtain ⟨E10, S10⟩ := sim_over S3 E9 S9
              obtain ⟨ob, hob, hcls, hdat⟩ := hit
              have kI : s4.heap.get? Ia = some ob := un4.keep Ia ob hob n1 (fpOk_stk I (fpI n1)) (by simp)
              have kS : s4.heap.get? Sa = some o := un4.keep Sa o hS n2 (fpOk_stk I (fpS n2)) (by simp)
              have I4 : L2.Inv X pins σ H'' s4 := by
                obtain ⟨hh4, g4, d4, t4, os4'⟩ := s4
                obtain rfl : os4' = s3.os := os4
                exact I3.call (h' := hh4) (g' := g4) (d' := d4) (t' := t4) (ch := []) un4 hok4 bare4 (fun b z => absurd z (by simp))
              have E11 : Ext m H m H'' := E3'.trans E10
              obtain ⟨its4, rv4, pl4, _⟩ := I4.list (TrL.fz (K := X.K) (ha.mono E11)).sq
              exact cont u s4 ⟨H'', I4, E11, S10, un4.free Ia ob hob n1 (by simp), un4.free Sa o hS n2 (by simp)⟩ ⟨⟨ob, kI, hcls, hdat⟩, its4, pl4.isList, rv4⟩ kS rel4 (fun _ _ hv => hv)
          · obtain ⟨ti, rfl⟩ := hi
            obtain ⟨tj, rfl⟩ := hj
            exact wpAny_lt_int hq
        · refine ⟨H, ?_, Ext.refl _ _, S, I.hok.fresh (by omega), I.hok.fresh (by omega)⟩
          rw [e2]
          exact I.kept (t' := s.toks) fun b o eo => Heap.get?_push_of_some _ eo
        · rintro v s' ⟨y, hy, ry⟩ ⟨H', I3, E3, S3, _, _⟩
          obtain ⟨d', hd', rd'⟩ := RpL.getV hx hy
          have hed : d' = d := by
            have e5 : leastAt (k0 :: ks) = argBest (fun i j => decide ((k0 :: ks).getD i 0 < (k0 :: ks).getD j 0)) (xs.length - 1) := by
              unfold leastAt
              rw [← hlen, hxl]
            rw [e5] at hd
            rw [hd] at hd'
            cases hd'
            rfl
          subst hed
          exact ⟨y, H', I3, ry, q m H' E3 S3 y (Rp.mono E3 rd')⟩
    · cases e
  · cases e
def cMinK (c : List Val → M Val) (ce : MV.CE) : MV.CE := fun σ => bnd (ce σ) fun x => lift (gMinK c [x])
theorem re_minK {x : Str} {st : Stmt} {p p2 pos kpos : Pos} {e : Expr} {ce : MV.CE} (D : Df X.K X.mg x st ps f fd) (F : FOk X.prog X.w X.K T X.mg X.base j f fd ps c) (C : Cok X W k) (hgx : Gl X x) (h1 : ps.length = 1) (hg : Gl X "min") (hm : X.mg "min" = none) (he : RE X T W e ce) (hk : j + 1 ≤ k := by decide) (hdx : (x == ("__debug__" : Str)) = false := by decide)
    (hse : starEach (e :: []) X.env = (false, eval e X.env) :: starEach [] X.env := by rfl)
    (hb : backTo pos (starEach (e :: []) X.env) = (false, eval e X.env) :: backTo pos (starEach [] X.env) := by rfl) (hpl : (backTo pos (starEach (e :: []) X.env)).any (·.1) = false := by rfl)
    (hall : (backToKw pos (keywordEach [⟨some "key", .Name x p2, kpos⟩] X.env)).all (·.1.isSome) = true := by rfl) (hnone : (backToKw pos (keywordEach [⟨some "key", .Name x p2, kpos⟩] X.env)).any (·.1.isNone) = false := by rfl) (hks : (backToKw pos (keywordEach [⟨some "key", .Name x p2, kpos⟩] X.env)).filterMap (·.1) = [Str.ofString "key"] := by rfl) :
    RE X T W (.Call (.Name "min" p) [e] [⟨some "key", .Name x p2, kpos⟩] pos) (cMinK c ce) :=
  ⟨PE.imp (pe_callBK (k_minK (T := T) C.calm F h1 (C.room.mono hk) D.b) hg hm (by first | rfl | decide +kernel) (pa_cons he.pe pa_nil hse) (pk_cons (pe_glob (v := .ref f) hgx D.g rfl hdx) pk_nil) (by first | decide +kernel | decide) (by first | decide +kernel | decide) hb hpl hall hnone hks) fun σ H Q h => by
    refine tAny_bind h fun m h1 H1 σa x v S RS r A => ?_
    obtain ⟨z, h3, e, q⟩ := A.lifted
    exact ⟨rfl, m, h1, [x], z, h3, S, .cons r .nil, e, fun m' H' E S v rv => q m' H' E S v rv⟩⟩
end
end MV
/-! xs[::-1]; for x in reversed(xs[lo:]) -/
namespace MV
open PySem PySem.Spec PyProof.Rows L2
section
variable {K : PySem.W.Frag} {T : Tx} {m : MM} {H : Hp}
theorem RpL.reverse : ∀ {d v}, RpL K m H d v → RpL K m H d.reverse v.reverse
  | _, _, .nil => .nil
  | d :: ds, v :: vs, .cons h t => by
    rw [List.reverse_cons, List.reverse_cons]
    exact (RpL.reverse t).append (.one h)
theorem Paired.rev {α β : Type} {F : α → β → Prop} : ∀ {l₁ : List α} {l₂ : List β}, Paired F l₁ l₂ → Paired F l₁.reverse l₂.reverse
  | _, _, .nil => .nil
  | a :: l, b :: l', .cons r t => by
    rw [List.reverse_cons, List.reverse_cons]
    exact Paired.app (Paired.rev t) (.cons r .nil)
def cutA (xs : List Val) (lo hi : Option Int) : List Val := (xs.drop (HT.sIx xs.length 0 lo)).take (HT.sIx xs.length xs.length hi - HT.sIx xs.length 0 lo)
theorem Paired.dropP {α β : Type} {F : α → β → Prop} : ∀ {l₁ : List α} {l₂ : List β} (n : Nat), Paired F l₁ l₂ → Paired F (l₁.drop n) (l₂.drop n)
  | _, _, 0, r => r
  | _, _, n + 1, .nil => .nil
  | _, _, n + 1, .cons _ t => Paired.dropP n t
theorem cutA_rep {xs vs lo hi} (t : RepVs K m H xs vs) : RepVs K m H (cutA xs lo hi) (cutV vs lo hi) := by
  unfold cutA cutV
  rw [Paired.len t]
  exact Paired.takeP _ (Paired.dropP _ t)
/-- walked from its end -/
theorem itRev {a : Addr} {xs : List Val} {vs : List V} (hz : FzL K m H a vs) (t : RepVs K m H xs vs) : ItOk K T m H xs.reverse (Itv K a vs.length) := by
  have hl : xs.reverse.length = vs.length := by rw [List.length_reverse, Paired.len t]
  refine ⟨fun m1 h1 H1 i E S hi => ?_, fun m1 h1 H1 i x H' E S hi y => ?_, fun m1 h1 H1 i E S hi => by rw [hl] at hi; exact hi⟩
  · rw [hl] at hi
    exact ⟨hi, vs, vs[vs.length - 1 - i]'(by omega), (hz.monoF E).sq, List.getElem?_eq_getElem _⟩
  · rw [hl] at hi
    obtain ⟨rfl, y⟩ := y
    have e := y vs (hz.monoF E).sq
    obtain ⟨d, e1, r⟩ := Paired.at2 t e
    refine ⟨d, m1, ?_, Ext.refl _ _, S, r.monoF E⟩
    rw [List.getElem?_reverse (by rw [Paired.len t]; exact hi), Paired.len t]
    exact e1
end
section
variable {X : Cx} {T : Tx} {W : WX} {e tg : Expr} {ce : CE} {cl : CO} {lo : Option Expr} {p p1 p2 p3 pos : Pos}
def cRevL (ce : CE) : CE := fun σ => bnd (ce σ) fun x => lift fun h => match viewD x h with
  | some (.list ds) => some (.d (.list ds.reverse), h)
  | _ => none
theorem re_revL {k} (he : RE X T W e ce) : RE X T W (.Subscript e (.Slice none none (some (.UnaryOp .USub (.Constant (.int 1) k p1) p2)) p3) pos) (cRevL ce) :=
  ⟨PE.imp (pe_revL he.pe) fun σ H Q h => by
    refine tAny_bind h fun m h1 H1 σa x v S RS r A => ?_
    obtain ⟨z, h3, e, q⟩ := A.lifted
    split at e
    · rename_i ds hv
      cases e
      obtain ⟨a, vs, rfl, hs, t⟩ := view_list S r hv
      exact ⟨a, vs, rfl, hs, fun p hp => q m _ (Ext.new S hp) (S.new hp) _ (rp_newL S hp (RpL.reverse t))⟩
    · cases e⟩
def cRevTail (ce : CE) (cl : CO) : CI := fun σ => bnd (ce σ) fun x => bnd (cl σ) fun lo => lift fun h => match x with
  | .ref l => match h[l]? with
    | some (.lst xs) => some ((cutA xs lo none).reverse, h)
    | _ => none
  | _ => none
theorem ri_revTail (hg : Gl X "reversed") (hm : X.mg "reversed" = none) (he : RE X T W e ce) (hl : RO X T W lo cl) (hs : starEach [.Subscript e (.Slice lo none none p2) p3] X.env = (false, eval (.Subscript e (.Slice lo none none p2) p3) X.env) :: starEach [] X.env := by rfl) :
    RI X T W tg (.Call (.Name "reversed" p) [.Subscript e (.Slice lo none none p2) p3] [] pos) (cRevTail ce cl) :=
  ⟨PI.imp (RT.pi_revA hg hm (pe_slice (SlR.or sl_list sl_tupA) he.pe hl.po (ro_none (X := X) (T := T) (W := W)).po)) fun σ H R ⟨m, h, σa, S, RS, A⟩ => ⟨m, h, σa, S, RS, A.bind.mono fun m1 h1 H1 x E S1 A1 v r => by
    refine ⟨m1, h1, σa, S1, RS.mono E, A1.bind.mono fun m2 h2 H2 l E2 S2 A2 l' el => ?_⟩
    subst el
    refine ⟨m2, h2, σa, S2, (RS.mono E).mono E2, .ok none, h2, rfl, fun m3 H3 E3 S3 u' eu => ?_⟩
    subst eu
    obtain ⟨xs, h4, e, q⟩ := A2.lifted
    have r3 := (r.mono E2).mono E3
    split at e
    · rename_i lx
      split at e
      · rename_i ys hl
        cases e
        obtain ⟨y, e1, ok⟩ := Paired.at_ S3.cell hl
        cases ok with
        | @lst a _ vs ha hr =>
          have := r3.2 _ e1
          subst this
          refine .inl ⟨a, vs, rfl, .inl (.inl ha), fun p hp => ?_⟩
          have E4 : Ext m3 H3 m3 (upd H3 p (.lst (cutV vs l' none))) := Ext.new S3 hp
          have hz : FzL X.K m3 (upd H3 p (.lst (cutV vs l' none))) p (cutV vs l' none) := .inl ⟨.inl upd_same, S3.free hp⟩
          exact ⟨p, _, rfl, .inl ⟨hz.sq, q m3 _ (E3.trans E4) (S3.new hp) _ (itRev hz ((cutA_rep hr).mono E4))⟩⟩
      · cases e
    · cases e⟩⟩
end
end MV
/-! len(d), if d, with plain keys; d != {} with tuples as keys -/
namespace MV
open PySem PySem.Spec PyProof.Rows L2
section
variable {X : Cx} {T : Tx} {W : WX} {e : Expr} {ce : CE}
def gLenD : GA := fun xs h => match xs with
  | [.ref l] => match h[l]? with
    | some (.dK kvs) => some (.d (.int kvs.length), h)
    | _ => none
  | _ => none
theorem k_lenD : CallR X (.builtin "len") (rA X.K T gLenD) := by
  intro pins s σ H xs us Q I rx h
  obtain ⟨m, h0, as, z, h', S, r, e, q⟩ := h
  unfold gLenD at e
  split at e
  · rename_i l
    obtain ⟨v, rfl, rv⟩ := paired1 r
    split at e
    · rename_i kvs hl
      cases e
      obtain ⟨a, ws, rfl, em, ha, hr⟩ := cell_dK S rv hl
      refine call_lenD pins s σ H _ us Q I rx ⟨a, ws, rfl, ha, ?_⟩
      rw [← Paired.len hr]
      exact q m H (Ext.refl _ _) S _ (.int _)
    · cases e
  · cases e
def cTruK (e : CE) : CT := fun σ => bnd (e σ) fun x => lift fun h => match x with
  | .ref l => match h[l]? with
    | some (.dK kvs) => some (!kvs.isEmpty, h)
    | _ => none
  | _ => none
theorem rt_truK (ha : RE X T W e ce) (he : ∀ whole, isTrue e X.env whole = (do let v ← whole; standAt e.pos; holding [v] (truthy v)) := by intro _; rfl) : RT X T W e (cTruK ce) := ⟨PT.imp (pt_truth ha.pe he) fun σ H Q h => by
  refine tAny_bind h fun m h1 H1 σa x v S RS r A => ?_
  obtain ⟨b, h', e, q⟩ := A.lifted
  split at e
  · rename_i l
    split at e
    · rename_i kvs hl
      cases e
      obtain ⟨a, ws, rfl, em, ha, hr⟩ := cell_dK S r hl
      refine ⟨!kvs.isEmpty, .inr (.inr ⟨ws, ha, ?_⟩), q m H1 (Ext.refl _ _) S _ rfl⟩
      have := Paired.len hr
      cases kvs <;> cases ws <;> first | rfl | simp at this
    · cases e
  · cases e⟩
end
theorem ne_raw {prog : Program} {w : World} {A : Around} {E : Value → Shared → Prop} {s : Shared} {a b : Addr} {es es' : Array DictEntry} {ep ep' : Nat} {Q : Value → Shared → Prop} (ha : (a == sysModules) = false) (hb : (b == sysModules) = false)
    (da : s.heap.DictRaw a es ep) (db : s.heap.DictRaw b es' ep') (h0 : es'.size = 0) (hu : A.units < cLine) (h : Q (.bool (!(es.size == 0))) s) :
    wpAny (model prog w) A (compareOp .NotEq (.ref a) (.ref b)) Q E s := by
  have dat := da.typeIs
  have dbt := db.typeIs
  obtain ⟨oa, hoa, _, hda⟩ := da
  obtain ⟨ob, hob, _, hdb⟩ := db
  refine wpAny_richCompare_same_room (op := .NotEq) dat dbt PySem.F.slot_dict_ne (wpAny_call_entry PySem.F.slot_dict_ne dat PySem.F.entry_dict_ne ?_ (PySem.F.args_dict_ne_2 _ _)) hu
  show wpAny _ _ (Builtin.Dict.dictSlotArgs "__ne__" ⟨[.ref a, .ref b], []⟩ >>= _) _ _ s
  refine wpAny_bind ?_
  unfold Builtin.Dict.dictSlotArgs
  refine wpAny_bind (wpAny_notOrdered_dict dat ?_)
  show wpAny _ _ (pure (Value.ref a, Value.ref b)) _ _ s
  refine wpAny_pure ?_
  refine wpAny_bind (wpAny_isInstance (T := "dict") dbt PySem.F.sub_dict_dict ?_)
  simp only [Bool.not_true, Bool.false_eq_true, if_false]
  refine wpAny_bind (wpAny_pure (wpAny_bind (wpAny_pure ?_)))
  refine wpAny_bind (wpAny_mono (Q := fun r s' => r = (es.size == 0) ∧ s' = s) (E := E) ?_ (fun r s' hr => ?_) fun _ _ z => z)
  · unfold Builtin.Dict.samePairs Builtin.Dict.showsAll
    rw [if_neg (show ¬ (a == sysModules) = true by rw [ha]; exact Bool.false_ne_true), if_neg (show ¬ (b == sysModules) = true by rw [hb]; exact Bool.false_ne_true)]
    refine wpAny_bind (wpAny_pure (wpAny_bind (wpAny_pure ?_)))
    refine wpAny_bind (wpAny_dictEntries hoa hda ?_)
    dsimp only
    refine wpAny_bind (wpAny_dictEntries hob hdb ?_)
    by_cases hsz : es.size = es'.size
    case neg =>
      rw [if_pos (by simpa using hsz)]
      refine wpAny_bind (wpAny_rule (wpAny_pure ⟨?_, rfl⟩))
      have : es.size ≠ 0 := by rw [← h0]; exact hsz
      simp [this]
    case pos =>
      have hes : es.size = 0 := hsz.trans h0
      rw [if_neg (by rw [hsz]; simp)]
      refine wpAny_bind (wpAny_dictEpoch hoa hda ?_)
      refine wpAny_bind ?_
      rw [Std.Legacy.Range.forIn_eq_forIn_range']
      simp only [Std.Legacy.Range.size, Nat.sub_zero, Nat.add_sub_cancel, Nat.div_one, hes]
      refine wpAny_pure ?_
      refine wpAny_pure ⟨by simp, rfl⟩
  · obtain ⟨rfl, rfl⟩ := hr
    refine wpAny_pure ⟨_, rfl, ?_, ?_⟩
    · exact fun x => nomatch x
    · rw [show ((es.size == 0) == false) = !(es.size == 0) by cases es.size == 0 <;> rfl]
      exact h
def gNeE : G2 := fun x y h => match x, y with
  | .ref l, .ref l' => match h[l]?, h[l']? with
    | some (.dT kvs), some (.dT []) => some (.d (.bool (!kvs.isEmpty)), h)
    | some (.lT kvs), some (.dT []) => some (.d (.bool (!kvs.isEmpty)), h)
    | _, _ => none
  | _, _ => none
theorem raw_T {K : PySem.W.Frag} {P : Program} {w : World} {H : Hp} {h : Heap} {a : Addr} {kvs : List (List Key × V)} (hok : HOk P w H h) (ha : H a = some (.dT kvs)) : (a == sysModules) = false ∧ ∃ es ep, h.DictRaw a es ep ∧ es.size = kvs.length := by
  obtain ⟨_, hsys, xs, rel, dof⟩ := dt_of hok ha
  obtain ⟨ob, es, ep, ho, hx, hdat, hes, _, _⟩ := dof
  exact ⟨hsys, es, ep, ⟨ob, ho, hx, hdat⟩, by rw [← Array.length_toList, hes, List.length_map]; exact (Paired.len rel).symm⟩
theorem o_neE {X : Cx} {T : Tx} (hu : X.A.units + 1 < cLine) : OpR X (compareOp .NotEq) (rP X.K T gNeE) := by
  intro pins s σ H vx vy u v Q I rx ry h
  obtain ⟨m, h0, x, y, z, h', S, r1, r2, e, q⟩ := h
  unfold gNeE at e
  split at e
  · rename_i l l'
    split at e
    · rename_i kvs hl hl'
      cases e
      obtain ⟨a, ws, rfl, em, ha, hr⟩ := cell_dT S r1 hl
      obtain ⟨b, ws', rfl, em', hb, hr'⟩ := cell_dT S r2 hl'
      obtain rfl : u = Value.ref a := rx
      obtain rfl : v = Value.ref b := ry
      cases hr'
      obtain ⟨y1, es, ep, d1, z1⟩ := raw_T (K := X.K) I.hok ha
      obtain ⟨y2, es', ep', d2, z2⟩ := raw_T (K := X.K) I.hok hb
      refine ne_raw y1 y2 d1 d2 z2 (by omega) ?_
      have hb2 : (!(es.size == 0)) = !kvs.isEmpty := by
        rw [z1, ← Paired.len hr]
        cases kvs <;> rfl
      rw [hb2]
      exact ⟨.bl _, H, I, rfl, q m H (Ext.refl _ _) S _ (.bl _)⟩
    · rename_i kvs hl hl'
      cases e
      obtain ⟨a, od, ws, em, ha, hr⟩ := cell_lT S hl
      obtain ⟨b, ws', rfl, em', hb, hr'⟩ := cell_dT S r2 hl'
      have hva : vx = .ref a := r1.2 _ em
      subst hva
      obtain rfl : u = Value.ref a := rx
      obtain rfl : v = Value.ref b := ry
      cases hr'
      obtain ⟨y1, hgd, hx, es, ep, hdt, hsz, _⟩ := I.frzT ha
      obtain ⟨y2, es', ep', d2, z2⟩ := raw_T (K := X.K) I.hok hb
      refine ne_raw y1 y2 ⟨od, hgd, hx, hdt⟩ d2 z2 (by omega) ?_
      have hb2 : (!(es.size == 0)) = !kvs.isEmpty := by
        rw [hsz, ← Paired.len hr]
        cases kvs <;> rfl
      rw [hb2]
      exact ⟨.bl _, H, I, rfl, q m H (Ext.refl _ _) S _ (.bl _)⟩
    · cases e
  · cases e
end MV
/-! tuple * n, n from 1 on -/
namespace MV
open PySem PySem.Spec PyProof.Rows L2
theorem tuple_mul1 (l : Addr) (items : Array Value) (n : Nat) (dd : Option Addr) (sl : Array (Option Value)) (u : Tok) :
    Meets (Builtin.«tuple.__mul__» ⟨[.ref l, .int 1 u], []⟩) (fun _ R s => s.heap.get? l = some { cls := .type "tuple", dict := dd, data := .seq items n, slots := sl } ∧ R (.ok (.ret (Value.ref l))) s) :=
  .of_wp fun prog w A R s h => by
    obtain ⟨hp, g, d, tk, os⟩ := s
    obtain ⟨hl, h⟩ := h
    have f1 := AutoSeq1.idx_int
    wp_walk using wpAny_loadPart' hl
    exact ⟨_, rfl, h⟩
section
variable {X : Cx} {T : Tx}
theorem op_rep1 : OpR X (binaryOp .Mult) (fun x y H Q => ∃ l xs, x = .ref l ∧ y = .int 1 ∧ SqT X.K H l xs ∧ Q (.ref l) H) := by
  intro pins s σ H x y v u Q I rx ry h
  obtain ⟨l, xs, rfl, rfl, hT, q⟩ := h
  cases rx
  obtain ⟨t, rfl⟩ := ry
  obtain ⟨its, r, ⟨⟨cls, dd, data, sl⟩, ho, hc, n, hd⟩, hs⟩ := I.tuple hT
  simp only at hc hd
  subst hc hd
  exact wpAny_binaryOp_repeat_ref (T := "tuple") (U := "int") (by decide) ⟨_, ho, rfl⟩ (fun s' => typeIs_int s' 1 t) noFill_tuple_mul F.fills_int_mul F.slot_int_rmul repeat_tuple F.slot_int_index.lookup
    (call_meets F.slot_int_rmul (typeIs_int s 1 t) F.entry_int_rmul (F.args_int_rmul_2 _ _) (int_rmul_tuple 1 t l its.toArray n dd sl)
      ⟨ho, rfl, ⟨_, ho, rfl⟩, call_meets F.slot_tuple_mul ⟨_, ho, rfl⟩ F.entry_tuple_mul (F.args_tuple_mul_2 _ _) (tuple_mul1 l its.toArray n dd sl t) ⟨ho, ⟨.ref l, H, I, rfl, q⟩⟩⟩)
def dRepT : PyData → PyData → Option PyData
  | .tuple ds, .int k => if k = 1 then some (.tuple ds) else if (2 ≤ k ∧ k ≤ 1000) ∧ ds ≠ [] ∧ ds.length ≤ 1000 then some (.tuple (List.replicate k.toNat ds).flatten) else none
  | _, _ => none
theorem o_repT : OpR X (binaryOp .Mult) (rP X.K T (gD dRepT)) := by
  intro pins s σ H x y v u Q I rx ry h
  obtain ⟨m, h0, a, b, z, h', S, ra, rb, e, q⟩ := h
  obtain ⟨d1, d2, d3, e1, e2, e3, rfl, rfl⟩ := gD_some e
  unfold dRepT at e3
  split at e3
  · rename_i ds k
    cases view_int S rb e2
    obtain ⟨p, vs, rfl, hz, t⟩ := view_tup S ra e1
    by_cases h1 : k = 1
    · rw [if_pos h1] at e3
      cases e3
      subst h1
      exact op_rep1 pins s σ H _ _ v u Q I rx ry ⟨p, vs, rfl, rfl, hz.sq, q m H (Ext.refl _ _) S _ (.tup hz t)⟩
    · rw [if_neg h1] at e3
      by_cases h2 : (2 ≤ k ∧ k ≤ 1000) ∧ ds ≠ [] ∧ ds.length ≤ 1000
      · rw [if_pos h2] at e3
        cases e3
        have hl := t.length
        refine op_repT pins s σ H _ _ v u Q I rx ry ⟨p, k, vs, rfl, rfl, hz.sq, fun z => h2.2.1 (List.eq_nil_of_length_eq_zero (by rw [hl, z]; rfl)), h2.1.1, h2.1.2, by rw [← hl]; exact h2.2.2, fun p3 hp3 => ?_⟩
        exact q m _ (Ext.new S hp3) (S.new hp3) _ (rp_newT S hp3 (rep_rep t _))
      · rw [if_neg h2] at e3; cases e3
  · cases e3
/-- [..] * n, a list that will change -/
def gRepN : G2 := fun x y h => match viewM x h, viewM y h with
  | some (.list ds), some (.int k) => if (-(2 ^ 63) ≤ k ∧ k < 2 ^ 63) ∧ ds.length * k.toNat ≤ sizeLine then some (.ref h.length, h ++ [.lst ((List.replicate k.toNat ds).flatten.map .d)]) else none
  | _, _ => none
theorem o_repN : OpR X (binaryOp .Mult) (rP X.K T gRepN) := by
  intro pins s σ H x y v u Q I rx ry h
  obtain ⟨m, h0, a, b, z, h', S, ra, rb, e, q⟩ := h
  unfold gRepN at e
  split at e
  · rename_i ds k e1 e2
    by_cases hz : (-(2 ^ 63) ≤ k ∧ k < 2 ^ 63) ∧ ds.length * k.toNat ≤ sizeLine
    · rw [if_pos hz] at e
      cases e
      obtain ⟨p, vs, rfl, hp, tp⟩ := viewM_list S ra e1
      cases view_int S rb (viewM_D e2)
      refine op_rep pins s σ H _ _ v u Q I rx ry ⟨p, k, vs, rfl, rfl, hp, hz.1.1, hz.1.2, by rw [← tp.length]; exact hz.2, fun p3 hp3 => ?_⟩
      exact q (m ++ [some p3]) _ (Ext.push S hp3) (S.push hp3 ((rep_rep tp _).vals)) _ (rep_push S)
    · rw [if_neg hz] at e; cases e
  · cases e
end
end MV
/-! sorted(set(list of ints)) -/
namespace MV
open PySem PySem.Spec PyProof.Rows L2
/-- the set that set() lays first -/
abbrev emp (w : World) : Obj := ⟨.type "set", none, .set #[] 0 (.fresh 0 0 (!w.params.followText "set-order")), #[]⟩
section
variable {P : Program} {w : World} {A : Around} {E : Value → Shared → Prop} {s : Shared}
set_option maxHeartbeats 6400000 in
theorem set_ints {l : Addr} {its : Array Value} (ns : List Int) {Q : Value → Shared → Prop} (quiet : A.handled = none) (hL : s.heap.IsList l its) (hI : IntsAre its.toList ns) (few : ns.length + 1 < scanBound)
    (fin : ∀ (hp : Heap) (tk c : Nat), SetR w hp s.heap.objs.size (fun j => decide (j ∈ ns)) c → c ≤ ns.length → (∀ b o, s.heap.get? b = some o → hp.get? b = some o) → Q (.ref s.heap.objs.size) { s with heap := hp, toks := tk }) :
    wpAny (model P w) A (call (.type "set") [.ref l]) Q E s := by
  have many : its.size = ns.length := (Array.length_toList (xs := its)).symm.trans (IntsAre.length hI)
  obtain ⟨c0, tl, hmro⟩ := F.called_set.mro
  have m1 := F.called_set.made; have m2 := F.called_set.sub
  refine wpAny_call (codeAny_of_tree ?_)
  refine (show wpAny (model P w) _ (callAny (.type "set") ⟨[.ref l], []⟩) _ _ s from wpAny_pure ⟨Code.quiet_builtin _ (by decide +kernel), codeAny_builtin F.entry_type_call ?_⟩)
  rw [Around.under_plain (weight_type_call_type "set" [.ref l] []) rfl]
  have m3 := F.called_set.notType; have m4 := F.called_set.canCreate; have m5 := F.typeCall_set_1 (.ref l)
  repeat (any_goals (first | assumption | wp_step))
  refine codeAny_mono (code_set_led1 (.ref l) (E := E) (Q₁ := fun obj s₁ => obj = .ref s.heap.objs.size ∧ s₁ = { s with heap := s.heap.push (emp w) }) ⟨rfl, rfl⟩) fun r s₁ hr => ?_
  match r, hr with
  | .error e, hr => exact hr
  | .ok (.ret obj), hr =>
    obtain ⟨rfl, rfl⟩ := hr
    have g0 : (s.heap.push (emp w)).get? s.heap.objs.size = some (emp w) := Heap.get?_push_size _ rfl
    have ty : Shared.TypeIs { s with heap := s.heap.push (emp w) } (.ref s.heap.objs.size) "set" := ⟨_, g0, rfl⟩
    have li := F.called_set.init.lookup; have bi := F.called_set.init.bind (.ref s.heap.objs.size)
    repeat (any_goals (first | assumption | wp_step))
    refine codeAny_mono (codeAny_call_builtin (R := wants (fun r s₂ => r = .none ∧ ∃ hp tk c, s₂ = { s with heap := hp, toks := tk } ∧ SetR w hp s.heap.objs.size (fun j => decide (j ∈ ns)) c ∧ c ≤ ns.length ∧ (∀ b o, s.heap.get? b = some o → hp.get? b = some o)) E) F.called_set.init.plain F.entry_set_init (check_set_init_1 ty ?_)) fun r₂ s₂ hr₂ => ?_
    · obtain ⟨⟨_, od, _, os⟩, ho, rfl, nl, rfl⟩ := hL
      have hlt : l < s.heap.objs.size := Heap.lt_size ho
      have ho1 : (s.heap.push (emp w)).IsList l its := ⟨_, Heap.get?_push_of_some _ ho, rfl, nl, rfl⟩
      have k1 := F.sub_list_set; have k2 := F.sub_list_frozenset
      have k3 : (Value.type "list" == Value.type "dict") = false := by decide
      have ho2 := Heap.get?_push_of_some (emp w) ho
      unfold Builtin.«set.__init__» noKeywords Builtin.Frozenset.updateFrom
      generalize hPI : pyIter = PI
      wp_walk
      subst hPI
      refine wpAny_pyIter_list ho1 (wpAny_bind (wpAny_runValue ?_))
      have q3 : A.in1.in1.in1.handled = none := by simp [quiet]
      have ez : (s.heap.push (emp w)).objs.size = s.heap.objs.size + 1 := Heap.size_push ..
      have ne1 : l ≠ (s.heap.push (emp w)).objs.size := Nat.ne_of_lt (Nat.lt_of_lt_of_le hlt (by rw [ez]; exact Nat.le_succ _))
      have out : s.heap.objs.size ∉ [(s.heap.push (emp w)).objs.size, l] := by
        intro z
        rcases List.mem_cons.mp z with z | z
        · exact absurd (z.trans ez) (by omega)
        · have z2 := List.mem_singleton.mp z
          exact absurd z2 (Nat.ne_of_gt hlt)
      have val : ∀ (i : Nat) (v : Value), its[i]? = some v → ∃ k t, ns[i]? = some k ∧ v = .int k t := fun i v hv => by
        have hi : i < ns.length := many ▸ (Array.getElem?_eq_some_iff.mp hv).1
        obtain ⟨t, e⟩ := IntsAre.int_at hI i v (by rw [Array.getElem?_toList]; exact hv)
        exact ⟨ns[i], t, List.getElem?_eq_getElem hi, by rw [e, List.getD_eq_getElem?_getD, List.getElem?_eq_getElem hi]; rfl⟩
      refine set_update_ints ((Walks.list q3 _ l ne1 its).toS) s.heap.objs.size out ns many few val (its.size - 0) 0 _ (by omega) (Nat.zero_le _) ⟨⟨_, Heap.get?_push_size _ rfl, rfl, rfl⟩, (ho1.push _)⟩ ⟨0, Nat.le_refl 0, setR_new_at (Heap.get?_push_of_some _ g0)⟩ ?_
      intro t c1 mv hc1 hS1
      obtain ⟨hp, gg, dd, tk, ow⟩ := t
      obtain rfl : gg = s.gens := mv.gens
      obtain rfl : dd = s.drawn := mv.drawn
      obtain rfl : ow = s.os := mv.os
      show wpAny (model P w) _ _ _ _ _
      refine wpAny_pure ?_
      refine (show wpAny (model P w) _ (PySem.ret Value.none) _ _ _ from wpAny_pure ⟨rfl, hp, tk, c1, rfl, hS1, many ▸ hc1, fun b o e => mv.heap b o ?_ (Heap.get?_push_of_some _ (Heap.get?_push_of_some _ e))⟩)
      have hb := Heap.lt_size e
      intro z
      rcases List.mem_cons.mp z with z | z
      · exact Nat.ne_of_lt hb z
      · exact Nat.ne_of_lt (Nat.lt_of_lt_of_le hb (by rw [ez]; exact Nat.le_succ _)) (List.mem_singleton.mp z)
    · match r₂, hr₂ with
      | .error e, hr₂ => exact hr₂
      | .ok (.ret r), hr₂ =>
        obtain ⟨rfl, hp, tk, c1, rfl, a1, a2, a3⟩ := hr₂
        repeat (any_goals (first | assumption | wp_step))
        exact fin _ _ _ a1 a2 a3
end
end MV
namespace MV
open PySem PySem.Spec PyProof.Rows L2
/-! ### ints sorted, each once -/
def insU (k : Int) : List Int → List Int
  | [] => [k]
  | j :: r => if k < j then k :: j :: r else if k = j then j :: r else j :: insU k r
def sortU (ns : List Int) : List Int := ns.foldl (fun acc k => insU k acc) []
theorem insU_mem {k x : Int} : ∀ {l : List Int}, x ∈ insU k l ↔ x = k ∨ x ∈ l
  | [] => by unfold insU; simp
  | j :: r => by
    unfold insU
    split
    · simp
    · split
      · rename_i h; subst h; simp
      · rw [List.mem_cons, insU_mem (l := r), List.mem_cons]
        constructor
        · rintro (h | h | h)
          · exact .inr (.inl h)
          · exact .inl h
          · exact .inr (.inr h)
        · rintro (h | h | h)
          · exact .inr (.inl h)
          · exact .inl h
          · exact .inr (.inr h)
theorem insU_pw {k : Int} : ∀ {l : List Int}, l.Pairwise (· < ·) → (insU k l).Pairwise (· < ·)
  | [], _ => by unfold insU; simp
  | j :: r, h => by
    obtain ⟨h1, h2⟩ := List.pairwise_cons.mp h
    unfold insU
    split
    · rename_i hk
      refine List.pairwise_cons.mpr ⟨fun x hx => ?_, h⟩
      rcases List.mem_cons.mp hx with rfl | hx
      · exact hk
      · have := h1 x hx
        omega
    · split
      · exact h
      · refine List.pairwise_cons.mpr ⟨fun x hx => ?_, insU_pw h2⟩
        rcases insU_mem.mp hx with rfl | hx
        · omega
        · exact h1 x hx
theorem sortU_go : ∀ (ns acc : List Int), acc.Pairwise (· < ·) → (ns.foldl (fun acc k => insU k acc) acc).Pairwise (· < ·) ∧ ∀ x, x ∈ ns.foldl (fun acc k => insU k acc) acc ↔ x ∈ acc ∨ x ∈ ns
  | [], acc, h => ⟨h, fun x => by simp⟩
  | n :: ns, acc, h => by
    obtain ⟨a, b⟩ := sortU_go ns (insU n acc) (insU_pw h)
    refine ⟨a, fun x => ?_⟩
    rw [List.foldl_cons, b, insU_mem, List.mem_cons]
    constructor
    · rintro ((h | h) | h)
      · exact .inr (.inl h)
      · exact .inl h
      · exact .inr (.inr h)
    · rintro (h | h | h)
      · exact .inl (.inr h)
      · exact .inl (.inl h)
      · exact .inr h
theorem sortU_pw (ns : List Int) : (sortU ns).Pairwise (· < ·) := (sortU_go ns [] .nil).1
theorem sortU_mem {ns : List Int} {x : Int} : x ∈ sortU ns ↔ x ∈ ns := by
  have := (sortU_go ns [] .nil).2 x
  unfold sortU
  rw [this]
  simp
theorem pw_nodup {l : List Int} (h : l.Pairwise (· < ·)) : l.Nodup := h.imp fun h => Int.ne_of_lt h
theorem pw_uniq {l m : List Int} (h1 : l.Pairwise (· < ·)) (h2 : m.Pairwise (· < ·)) (h : ∀ x, x ∈ l ↔ x ∈ m) : l = m :=
  List.Perm.eq_of_pairwise (le := fun a b => a < b) (fun a b _ _ q r => absurd (Int.lt_trans q r) (Int.lt_irrefl _)) h1 h2 ((List.perm_ext_iff_of_nodup (pw_nodup h1) (pw_nodup h2)).mpr h)
/-- how many are in a set that is told -/
theorem setR_many {w : World} {h : Heap} {a : Addr} {ns : List Int} {c : Nat} (R : SetR w h a (fun j => decide (j ∈ ns)) c) : c = (sortU ns).length := by
  obtain ⟨o, es, ep, t, _, _, _, _, nd, hm, _, _, hn, _⟩ := R
  have p : (es.toList.map L2.keyOf).Perm (sortU ns) := (List.perm_ext_iff_of_nodup nd (pw_nodup (sortU_pw ns))).mpr fun x => by
    rw [← hm x, decide_eq_true_eq, sortU_mem]
  rw [← hn, ← p.length_eq, List.length_map, Array.length_toList]
section
variable {X : Cx}
def tSortSet (K : PySem.W.Frag) (ta : TE) : TE := fun σ H Q => ta σ H fun x H1 => ∃ (l : Addr) (ns : List Int), x = V.ref l ∧ SqL K H1 l (ns.map V.int) ∧ ns.length ≤ 1000 ∧ (sortU ns).length < 64 ∧ ∀ p, H1 p = none → Q (.ref p) (upd H1 p (.lst ((sortU ns).map V.int)))
theorem ints_are : ∀ {ns : List Int} {us : List Value}, Vals (ns.map V.int) us → IntsAre us ns
  | [], _, .nil => .nil
  | n :: _, _, .cons ⟨k, e⟩ t => e ▸ .cons n k (ints_are t)
theorem vals_ints : ∀ {ns : List Int} {us : List Value}, IntsAre us ns → Vals (ns.map V.int) us
  | _, _, .nil => .nil
  | _, _, .cons _ k t => .cons ⟨k, rfl⟩ (vals_ints t)
theorem sort_step {pins : List (Addr × Obj)} {σ : L2.St} {H1 : Hp} {s2 : Shared} {a : Addr} {ns : List Int} {c : Nat} {Q : V → Hp → Prop} (I2 : Inv X pins σ H1 s2) (R : SetR X.w s2.heap a (fun j => decide (j ∈ ns)) c) (quiet : X.calm = true) (lt64 : (sortU ns).length < 64)
    (fin : ∀ p, H1 p = none → Q (.ref p) (upd H1 p (.lst ((sortU ns).map V.int)))) : wpAny (model X.prog X.w) X.A (call (.builtin "sorted") [.ref a]) (EP X pins σ Q) X.xe s2 := by
  refine sorted_set R (I2.ok.hd quiet) (by rw [setR_many R]; exact lt64) fun s' b out c2 ms k g o hb ho hi pw mem _ => ?_
  have em : ms = sortU ns := pw_uniq pw (sortU_pw ns) fun x => by rw [mem x, decide_eq_true_eq, sortU_mem]
  subst em
  have sz : ((sortU ns).map V.int).length ≤ sizeLine := by rw [List.length_map, sizeLine_eq]; omega
  have none0 : H1 b = none := I2.hok.fresh hb
  have J : Inv X pins σ (upd H1 b (.lst ((sortU ns).map V.int))) { s2 with heap := s'.heap, gens := s'.gens, drawn := s'.drawn, toks := s'.toks } :=
    I2.call (ch := []) (Un.laid k hb none0) (I2.hok.laid k hb ⟨sz, out.toList, c2, vals_ints hi, ho⟩) (by rw [g]; exact I2.bare) (fun _ z => nomatch z)
  obtain ⟨sh, sg, sd, st, so⟩ := s'
  obtain rfl : so = s2.os := o
  exact ⟨.ref b, _, J, rfl, fin b none0⟩
theorem pe_sortSet {a : Expr} {ta : TE} {p p2 q pos : Pos} (quiet : X.calm = true) (g1 : Gl X "sorted") (n1 : X.mg "sorted" = none) (g2 : Gl X "set") (n2 : X.mg "set" = none) (ha : PE X a ta)
    (na : starEach [a] X.env = (false, eval a X.env) :: starEach [] X.env := by rfl) : PE X (.Call (.Name "sorted" p) [.Call (.Name "set" p2) [a] [] q] [] pos) (tSortSet X.K ta) := by
  refine ⟨fun pins s σ H Q I h => Call_ (ld_blt I g1 n1 boot_sorted ?_)⟩
  refine PyProof.Rows.callWith_builtin1 (PyProof.Rows.args_cons (Call_ (ld_blt I g2 n2 boot_set ?_)) rfl) rfl rfl
  refine PyProof.Rows.callWith_type1 (PyProof.Rows.args_cons (thn (ha.run pins s σ H _ I h) fun v s1 ⟨x, H1, I1, r1, z1⟩ => PyProof.Rows.args_nil ?_) na) na rfl
  obtain ⟨l, ns, rfl, hL, few, lt64, fin⟩ := z1
  cases r1
  obtain ⟨its, rv, pl, _⟩ := I1.list hL
  refine set_ints ns (I1.ok.hd quiet) pl.isList (by simpa using ints_are rv) (by unfold scanBound; omega) fun hp tk c R _ keep => PyProof.Rows.args_nil ?_
  exact sort_step (I1.kept fun b o e => keep b o e) R quiet lt64 fin
end
end MV
namespace MV
open PySem PySem.Spec PyProof.Rows L2
def cSortSet (e : CE) : CE := fun σ => bnd (e σ) fun x => lift fun h => match viewD x h with
  | some (.list ds) => match intsOf ds with
    | some ns => if ns.length ≤ 1000 ∧ (sortU ns).length < 64 then some (.d (.list ((sortU ns).map .int)), h) else none
    | none => none
  | _ => none
theorem rpl_ints_v {K : PySem.W.Frag} {m : MM} {H : Hp} : ∀ {ns : List Int} {vs : List V}, RpL K m H (ns.map .int) vs → vs = ns.map V.int
  | [], _, .nil => rfl
  | _ :: _, _, .cons (.int _) t => by rw [rpl_ints_v t]; rfl
section
variable {X : Cx} {T : Tx} {W : WX} {k : Nat} {e : Expr} {p p2 pos q : Pos} {ca : CE}
theorem re_sortSet (C : Cok X W k) (g1 : Gl X "sorted") (n1 : X.mg "sorted" = none) (g2 : Gl X "set") (n2 : X.mg "set" = none) (he : RE X T W e ca)
    (na : starEach [e] X.env = (false, eval e X.env) :: starEach [] X.env := by rfl) : RE X T W (.Call (.Name "sorted" p) [.Call (.Name "set" p2) [e] [] q] [] pos) (cSortSet ca) :=
  ⟨PE.imp (pe_sortSet C.calm g1 n1 g2 n2 he.pe na) fun σ H Q h => by
    refine tAny_bind h fun m h1 H1 σa x v S RS r A => ?_
    obtain ⟨z, h', e1, q1⟩ := A.lifted
    cases hv : viewD x h1 with
    | none => rw [hv] at e1; cases e1
    | some d =>
      rw [hv] at e1
      cases d with
      | list ds =>
        dsimp only at e1
        cases hn : intsOf ds with
        | none => rw [hn] at e1; cases e1
        | some ns =>
          rw [hn] at e1
          dsimp only at e1
          by_cases hl : ns.length ≤ 1000 ∧ (sortU ns).length < 64
          · rw [if_pos hl] at e1
            cases e1
            obtain ⟨a, vs, rfl, hs, t⟩ := view_list S r hv
            rw [intsOf_some hn] at t
            rw [rpl_ints_v t] at hs
            exact ⟨a, ns, rfl, hs, hl.1, hl.2, fun b nb => q1 m _ (Ext.new S nb) (S.new nb) _ (rp_newL S nb (rpl_ints _))⟩
          · rw [if_neg hl] at e1; cases e1
      | _ => cases e1⟩
end
end MV
/-! what codes give -/
namespace MV
open PySem PySem.Spec PyProof.Rows L2
theorem ret_ap {α : Type} (x : α) (h : AH) : MV.ret x h = some (.ok x, h) := rfl
theorem lift_ap {α : Type} (c : O α) (h : AH) : lift c h = match c h with
  | none => none
  | some (x, h') => some (.ok x, h') := rfl
theorem bnd_ap {α β : Type} (c : M α) (k : α → M β) (h : AH) : bnd c k h = match c h with
  | none => none
  | some (.ok x, h') => k x h'
  | some (.exn n fs, h') => some (.exn n fs, h') := rfl
theorem ite_ap {α β : Type} (c : Prop) [Decidable c] (a b : α → β) (h : α) : (if c then a else b) h = if c then a h else b h := by split <;> rfl
theorem shut_self (v : Val) (h : AH) : shut h.length v h = h := by
  unfold shut
  rw [List.take_length]
  split <;> rfl
/-- a heap that refers to itself alone -/
def Cl (h : AH) : Prop := h.all (Cell.below h.length) = true
theorem shut_cl {h x : AH} {v : Val} (c : Cl h) (hv : v.below h.length = true) : shut h.length v (h ++ x) = h := by
  unfold shut
  rw [List.take_left]
  rw [if_pos ⟨hv, c⟩]
theorem Val.below_mono {n m : Nat} (hn : n ≤ m) {v : Val} (h : v.below n = true) : v.below m = true := by
  cases v with
  | ref l => exact decide_eq_true (Nat.lt_of_lt_of_le (of_decide_eq_true h) hn)
  | _ => rfl
theorem Cell.below_mono {n m : Nat} (hn : n ≤ m) {c : Cell} (h : c.below n = true) : c.below m = true := by
  cases c with
  | lst xs =>
    have h : xs.all (Val.below n) = true := h
    show xs.all (Val.below m) = true
    rw [List.all_eq_true] at h ⊢
    exact fun x hx => Val.below_mono hn (h x hx)
  | dK kvs =>
    have h : (kvs.all fun p => p.2.below n) = true := h
    show (kvs.all fun p => p.2.below m) = true
    rw [List.all_eq_true] at h ⊢
    exact fun x hx => Val.below_mono hn (h x hx)
  | dT kvs =>
    have h : (kvs.all fun p => p.2.below n) = true := h
    show (kvs.all fun p => p.2.below m) = true
    rw [List.all_eq_true] at h ⊢
    exact fun x hx => Val.below_mono hn (h x hx)
  | ins _ kvs =>
    have h : (kvs.all fun p => p.2.below n) = true := h
    show (kvs.all fun p => p.2.below m) = true
    rw [List.all_eq_true] at h ⊢
    exact fun x hx => Val.below_mono hn (h x hx)
  | lT kvs =>
    have h : (kvs.all fun p => p.2.below n) = true := h
    show (kvs.all fun p => p.2.below m) = true
    rw [List.all_eq_true] at h ⊢
    exact fun x hx => Val.below_mono hn (h x hx)
  | lK kvs =>
    have h : (kvs.all fun p => p.2.below n) = true := h
    show (kvs.all fun p => p.2.below m) = true
    rw [List.all_eq_true] at h ⊢
    exact fun x hx => Val.below_mono hn (h x hx)
  | lL xs =>
    have h : (xs.all (Val.below n)) = true := h
    show (xs.all (Val.below m)) = true
    rw [List.all_eq_true] at h ⊢
    exact fun x hx => Val.below_mono hn (h x hx)
  | dead => rfl
theorem Cl.push {h : AH} (c : Cl h) {x : Cell} (hx : x.below (h.length + 1) = true) : Cl (h ++ [x]) := by
  unfold Cl at c ⊢
  rw [List.length_append, List.length_singleton, List.all_append, Bool.and_eq_true]
  refine ⟨?_, by rw [List.all_cons, List.all_nil, Bool.and_true]; exact hx⟩
  rw [List.all_eq_true] at c ⊢
  exact fun y hy => Cell.below_mono (Nat.le_succ _) (c y hy)
theorem data_below {n : Nat} : ∀ ds : List PyData, (ds.map Val.d).all (Val.below n) = true
  | [] => rfl
  | _ :: ds => data_below ds
theorem Cl.pushD {h : AH} (c : Cl h) (ds : List PyData) : Cl (h ++ [.lst (ds.map .d)]) := c.push (data_below ds)
theorem Cl.nil : Cl [] := rfl
/-- an expression's code gives data, all else stays -/
def Gv (c : CE) (σ : SA) (d : PyData) : Prop := ∀ h, Cl h → c σ h = some (.ok (.d d), h)
/-- a def's code does -/
def Pu (c : List Val → M Val) (as : List PyData) (d : PyData) : Prop := ∀ h, Cl h → c (as.map .d) h = some (.ok (.d d), h)
theorem allD_d (ds : List PyData) : allD (ds.map .d) = some ds := by
  induction ds with
  | nil => rfl
  | cons d ds ih => show (allD (ds.map .d)).map (d :: ·) = _; rw [ih]; rfl
/-! ### loops -/
theorem sLoop_nil {g : CG} {b : CS} {σ : SA} {h : AH} : sLoop g b [] σ h = some (.nx σ, h) := rfl
theorem sLoop_nx {g : CG} {b : CS} {σ σ' : SA} {h h' : AH} {x : Val} {xs : List Val} {ups} (hg : g x h = some ups) (hb : b (setAll σ ups) h = some (.nx σ', h')) : sLoop g b (x :: xs) σ h = sLoop g b xs σ' h' := by
  show (match g x h with | none => none | some ups => _) = _
  rw [hg]
  dsimp only
  rw [hb]
theorem sLoop_rt {g : CG} {b : CS} {σ : SA} {h h' : AH} {x v : Val} {xs : List Val} {ups} (hg : g x h = some ups) (hb : b (setAll σ ups) h = some (.rt v, h')) : sLoop g b (x :: xs) σ h = some (.rt v, h') := by
  show (match g x h with | none => none | some ups => _) = _
  rw [hg]
  dsimp only
  rw [hb]
/-! ### comprehensions -/
/-- a comprehension over data whose tests and elements are pure -/
theorem lcL_pure {g : CG} {tt : CT} {te : CE} {σ : SA} {L : Nat} {t : PyData → Bool} {f : PyData → PyData} : ∀ {ds acc : List PyData} {h : AH}, Cl h → L = h.length → acc.length + ds.length < sizeLine →
    (∀ d ∈ ds, ∀ hh, Cl hh → ∃ ups, g (.d d) hh = some ups ∧ tt (setAll σ ups) hh = some (.ok (t d), hh) ∧ (t d = true → te (setAll σ ups) hh = some (.ok (.d (f d)), hh))) →
    lcL g tt te L σ (ds.map .d) (h ++ [.lst (acc.map .d)]) = some (h ++ [.lst ((acc ++ (ds.filter t).map f).map .d)]) := by
  intro ds
  induction ds with
  | nil => intro acc h _ _ _ _; simp [lcL]
  | cons d ds ih =>
    intro acc h c hL hz H
    subst hL
    obtain ⟨ups, e1, e2, e3⟩ := H d List.mem_cons_self _ (c.pushD acc)
    rw [List.map_cons]
    unfold lcL
    rw [e1]
    dsimp only
    rw [e2]
    cases ht : t d with
    | false =>
      dsimp only
      rw [ih c rfl (by rw [List.length_cons] at hz; omega) fun d' hd' => H d' (List.mem_cons_of_mem _ hd'), List.filter_cons_of_neg (by rw [ht]; exact Bool.false_ne_true)]
    | true =>
      dsimp only
      rw [e3 ht]
      dsimp only
      have e4 : (h ++ [Cell.lst (acc.map .d)])[h.length]? = some (.lst (acc.map .d)) := by simp
      rw [e4]
      dsimp only
      rw [if_pos (by rw [List.length_map]; rw [List.length_cons] at hz; omega)]
      have e5 : (h ++ [Cell.lst (acc.map .d)]).set h.length (.lst (acc.map .d ++ [.d (f d)])) = h ++ [.lst ((acc ++ [f d]).map .d)] := by
        rw [List.set_append_right _ _ (Nat.le_refl _), Nat.sub_self]
        simp
      rw [e5, ih c rfl (by rw [List.length_append, List.length_singleton]; rw [List.length_cons] at hz; omega) fun d' hd' => H d' (List.mem_cons_of_mem _ hd'), List.filter_cons_of_pos ht]
      simp
theorem cLc_pure {ci : CI} {own : List Nat} {g : CG} {tt : CT} {te : CE} {σ : SA} {t : PyData → Bool} {f : PyData → PyData} {ds : List PyData} {h : AH} (c : Cl h) (hi : ci σ h = some (.ok (ds.map .d), h)) (hz : ds.length < sizeLine)
    (H : ∀ d ∈ ds, ∀ hh, Cl hh → ∃ ups, g (.d d) hh = some ups ∧ tt (setAll (wipeA σ own) ups) hh = some (.ok (t d), hh) ∧ (t d = true → te (setAll (wipeA σ own) ups) hh = some (.ok (.d (f d)), hh))) :
    cLc ci own g tt te σ h = some (.ok (.d (.list ((ds.filter t).map f))), h) := by
  unfold cLc
  rw [bnd_ok hi, lift_ap]
  have e := lcL_pure (acc := []) c rfl (by rw [List.length_nil]; omega) H
  rw [List.map_nil] at e
  rw [e]
  simp only [Option.bind_some, List.nil_append]
  unfold lcEnd
  have hc : (h ++ [Cell.lst (((ds.filter t).map f).map .d)]).take h.length = h := List.take_left
  rw [hc, if_pos ⟨by simp, c⟩]
  have e4 : (h ++ [Cell.lst (((ds.filter t).map f).map .d)])[h.length]? = some (.lst (((ds.filter t).map f).map .d)) := by simp
  rw [e4]
  dsimp only
  rw [allD_d]
  rfl
theorem cLcN_pure {ci : CI} {own : List Nat} {g : CG} {tt : CT} {te : CE} {σ : SA} {t : PyData → Bool} {f : PyData → PyData} {ds : List PyData} {h : AH} (c : Cl h) (hi : ci σ h = some (.ok (ds.map .d), h)) (hz : ds.length < sizeLine)
    (H : ∀ d ∈ ds, ∀ hh, Cl hh → ∃ ups, g (.d d) hh = some ups ∧ tt (setAll (wipeA σ own) ups) hh = some (.ok (t d), hh) ∧ (t d = true → te (setAll (wipeA σ own) ups) hh = some (.ok (.d (f d)), hh))) :
    cLcN ci own g tt te σ h = some (.ok (.ref h.length), h ++ [.lst (((ds.filter t).map f).map .d)]) := by
  unfold cLcN
  rw [bnd_ok hi, lift_ap]
  have e := lcL_pure (acc := []) c rfl (by rw [List.length_nil]; omega) H
  rw [List.map_nil] at e
  rw [e]
  simp only [Option.bind_some, List.nil_append]
  unfold lcEndN
  have e4 : (h ++ [Cell.lst (((ds.filter t).map f).map .d)])[h.length]? = some (.lst (((ds.filter t).map f).map .d)) := by simp
  rw [e4]
/-! ### any, all -/
theorem gxL_pure {st : Bool} {g : CG} {te : CE} {σ : SA} {f : PyData → Bool} {h : AH} (c : Cl h) : ∀ {ds : List PyData}, (∀ d ∈ ds, ∀ hh, Cl hh → ∃ ups, g (.d d) hh = some ups ∧ te (setAll σ ups) hh = some (.ok (.d (.bool (f d))), hh)) →
    gxL st g cYes te σ (ds.map .d) h = some (.ok (.d (.bool (if st = true then ds.any f else ds.all f))), h) := by
  intro ds
  induction ds with
  | nil => intro _; cases st <;> rfl
  | cons d ds ih =>
    intro H
    obtain ⟨ups, e1, e2⟩ := H d List.mem_cons_self h c
    rw [List.map_cons]
    unfold gxL
    rw [e1]
    simp only [cYes, ret_ap, e2]
    rw [ih fun d' hd' => H d' (List.mem_cons_of_mem _ hd')]
    cases st <;> cases hf : f d <;> simp [hf]
theorem cGx_pure {st : Bool} {ci : CI} {own : List Nat} {g : CG} {te : CE} {σ : SA} {f : PyData → Bool} {ds : List PyData} {h : AH} (c : Cl h) (hi : ci σ h = some (.ok (ds.map .d), h))
    (H : ∀ d ∈ ds, ∀ hh, Cl hh → ∃ ups, g (.d d) hh = some ups ∧ te (setAll (wipeA σ own) ups) hh = some (.ok (.d (.bool (f d))), hh)) :
    cGx st ci own g cYes te σ h = some (.ok (.d (.bool (if st = true then ds.any f else ds.all f))), h) := by
  unfold cGx
  rw [bnd_ok hi]
  exact gxL_pure c H
/-! ### statements, step by step -/
theorem cDef_rt {n : Nat} {cb : CS} {as : List Val} {h h1 : AH} {v : Val} (e : cb (as.map some ++ List.replicate (n - as.length) none) h = some (.rt v, h1)) : cDef n cb as h = some (.ok v, shut h.length v h1) := by unfold cDef; rw [e]
theorem cDef_nx {n : Nat} {cb : CS} {as : List Val} {h h1 : AH} {σ : SA} (e : cb (as.map some ++ List.replicate (n - as.length) none) h = some (.nx σ, h1)) : cDef n cb as h = some (.ok (.d .none), shut h.length (.d .none) h1) := by unfold cDef; rw [e]
theorem cDef_rt0 {n : Nat} {cb : CS} {as : List Val} {h : AH} {v : Val} (e : cb (as.map some ++ List.replicate (n - as.length) none) h = some (.rt v, h)) : cDef n cb as h = some (.ok v, h) := by rw [cDef_rt e, shut_self]
theorem cDef_nx0 {n : Nat} {cb : CS} {as : List Val} {h : AH} {σ : SA} (e : cb (as.map some ++ List.replicate (n - as.length) none) h = some (.nx σ, h)) : cDef n cb as h = some (.ok (.d .none), h) := by rw [cDef_nx e, shut_self]
theorem seq_nx {a b : CS} {σ σ' : SA} {h h' : AH} {r} (e : a σ h = some (.nx σ', h')) (e2 : b σ' h' = r) : sSeq a b σ h = r := by unfold sSeq; rw [e]; exact e2
theorem seq_rt {a b : CS} {σ : SA} {h h' : AH} {v : Val} (e : a σ h = some (.rt v, h')) : sSeq a b σ h = some (.rt v, h') := by unfold sSeq; rw [e]
theorem if_t {t : CT} {a b : CS} {σ : SA} {h h' : AH} {r} (e : t σ h = some (.ok true, h')) (e2 : a σ h' = r) : sIf t a b σ h = r := by unfold sIf; rw [sByT_ok e, if_pos rfl]; exact e2
theorem if_f {t : CT} {a b : CS} {σ : SA} {h h' : AH} {r} (e : t σ h = some (.ok false, h')) (e2 : b σ h' = r) : sIf t a b σ h = r := by unfold sIf; rw [sByT_ok e, if_neg Bool.false_ne_true]; exact e2
theorem nil_nx {σ : SA} {h : AH} : sNil σ h = some (.nx σ, h) := rfl
theorem asg_ok {g : CG} {e : CE} {σ : SA} {h h' : AH} {x : Val} {ups} (e1 : e σ h = some (.ok x, h')) (e2 : g x h' = some ups) : sAsg g e σ h = some (.nx (setAll σ ups), h') := by unfold sAsg; rw [sBy_ok e1]; simp only [e2]
theorem asg_n {i : Nat} {e : CE} {σ : SA} {h h' : AH} {x : Val} (e1 : e σ h = some (.ok x, h')) : sAsg (gN i) e σ h = some (.nx (σ.set i (some x)), h') := asg_ok (g := gN i) e1 rfl
theorem ret_ok {e : CE} {σ : SA} {h h' : AH} {x : Val} (e1 : e σ h = some (.ok x, h')) : sRet e σ h = some (.rt x, h') := by unfold sRet; rw [sBy_ok e1]
theorem drop_ok {e : CE} {σ : SA} {h h' : AH} {x : Val} (e1 : e σ h = some (.ok x, h')) : sDrop e σ h = some (.nx σ, h') := by unfold sDrop; rw [sBy_ok e1]
theorem for_ok {ci : CI} {g : CG} {b : CS} {σ : SA} {h h' : AH} {xs : List Val} (e : ci σ h = some (.ok xs, h')) : sFor ci g b σ h = sLoop g b xs σ h' := by unfold sFor; rw [e]
theorem store_ok' {g : GSet} {eo ei e : CE} {σ : SA} {h h1 h2 h3 h4 : AH} {x o i : Val} (e1 : e σ h = some (.ok x, h1)) (e2 : eo σ h1 = some (.ok o, h2)) (e3 : ei σ h2 = some (.ok i, h3)) (e4 : g o i x h3 = some h4) : sStore g eo ei e σ h = some (.nx σ, h4) := by
  unfold sStore
  rw [sBy_ok e1, sBy_ok e2, sBy_ok e3]
  simp only [e4]
/-! ### expressions -/
theorem call_ok {n : Nat} {c : List Val → M Val} {ca : CA} {σ : SA} {h h1 h2 : AH} {xs : List Val} {v : Val} (e : ca σ h = some (.ok xs, h1)) (hl : xs.length = n) (e2 : c xs h1 = some (.ok v, h2)) : cCall n c ca σ h = some (.ok v, h2) := by
  unfold cCall
  rw [bnd_ok e, if_pos hl]
  exact e2
theorem cons_ok {a : CE} {r : CA} {σ : SA} {h h1 h2 : AH} {x : Val} {xs : List Val} (e : a σ h = some (.ok x, h1)) (e2 : r σ h1 = some (.ok xs, h2)) : cCons a r σ h = some (.ok (x :: xs), h2) := by
  unfold cCons
  rw [bnd_ok e, bnd_ok e2]
  rfl
theorem nil_ok {σ : SA} {h : AH} : cNil σ h = some (.ok [], h) := rfl
theorem one_ok {a : CE} {σ : SA} {h h1 : AH} {x : Val} (e : a σ h = some (.ok x, h1)) : cCons a cNil σ h = some (.ok [x], h1) := cons_ok e nil_ok
theorem var_ok {i : Nat} {σ : SA} {h : AH} {x : Val} (e : σ[i]? = some (some x)) : cVar i σ h = some (.ok x, h) := by
  show lift _ h = _
  rw [lift_ap]
  simp only [e]
theorem k_ok {d : PyData} {σ : SA} {h : AH} : cK d σ h = some (.ok (.d d), h) := rfl
theorem ap_ok {g : GA} {a : CA} {σ : SA} {h h1 h2 : AH} {xs : List Val} {v : Val} (e : a σ h = some (.ok xs, h1)) (e2 : g xs h1 = some (v, h2)) : cAp g a σ h = some (.ok v, h2) := by
  unfold cAp
  rw [bnd_ok e, lift_ok e2]
theorem op_ok {g : G2} {a b : CE} {σ : SA} {h h1 h2 h3 : AH} {x y v : Val} (e : a σ h = some (.ok x, h1)) (e2 : b σ h1 = some (.ok y, h2)) (e3 : g x y h2 = some (v, h3)) : cOp g a b σ h = some (.ok v, h3) := by
  unfold cOp
  rw [bnd_ok e, bnd_ok e2, lift_ok e3]
theorem opd_ok {f : PyData → PyData → Option PyData} {a b : CE} {σ : SA} {h h1 h2 : AH} {x y v : PyData} (e : a σ h = some (.ok (.d x), h1)) (e2 : b σ h1 = some (.ok (.d y), h2)) (e3 : f x y = some v) : cOp (gD f) a b σ h = some (.ok (.d v), h2) :=
  op_ok e e2 (by show (match viewD (.d x) h2, viewD (.d y) h2 with | some a, some b => (f a b).map fun z => (Val.d z, h2) | _, _ => none) = _; simp only [viewD, e3]; rfl)
theorem opm_ok {f : PyData → PyData → Option PyData} {a b : CE} {σ : SA} {h h1 h2 : AH} {x y v : PyData} (e : a σ h = some (.ok (.d x), h1)) (e2 : b σ h1 = some (.ok (.d y), h2)) (e3 : f x y = some v) : cOp (gDM f) a b σ h = some (.ok (.d v), h2) :=
  op_ok e e2 (by show (match viewM (.d x) h2, viewM (.d y) h2 with | some a, some b => (f a b).map fun z => (Val.d z, h2) | _, _ => none) = _; simp only [viewM, viewD, e3]; rfl)
theorem ap1_ok {f : PyData → Option PyData} {a : CE} {σ : SA} {h h1 : AH} {x v : PyData} (e : a σ h = some (.ok (.d x), h1)) (e2 : f x = some v) : cAp (g1 f) (cCons a cNil) σ h = some (.ok (.d v), h1) := ap_ok (one_ok e) (g1_ok rfl e2)
theorem test_ok {c : CE} {σ : SA} {h h1 : AH} {b : Bool} (e : c σ h = some (.ok (.d (.bool b)), h1)) : cTest c σ h = some (.ok b, h1) := by
  unfold cTest
  rw [bnd_ok e]
  rfl
theorem tru_ok' {c : CE} {σ : SA} {h h1 : AH} {d : PyData} {b : Bool} (e : c σ h = some (.ok (.d d), h1)) (e2 : truD d = some b) : cTru c σ h = some (.ok b, h1) := by
  unfold cTru
  rw [bnd_ok e, lift_ap]
  simp only [viewD, e2, Option.map_some]
theorem not_ok {t : CT} {σ : SA} {h h1 : AH} {b : Bool} (e : t σ h = some (.ok b, h1)) : cNot t σ h = some (.ok (!b), h1) := by
  unfold cNot
  rw [bnd_ok e]
  rfl
theorem iter_ok {c : CE} {σ : SA} {h h1 : AH} {ds : List PyData} (e : c σ h = some (.ok (.d (.tuple ds)), h1) ∨ c σ h = some (.ok (.d (.list ds)), h1)) : cIter iData c σ h = some (.ok (ds.map .d), h1) := by
  unfold cIter
  rcases e with e | e
  · rw [bnd_ok e, lift_ok (x := ds.map .d) (h' := h1) rfl]
  · rw [bnd_ok e, lift_ok (x := ds.map .d) (h' := h1) rfl]
theorem rg1_ok {c : CE} {σ : SA} {h h1 : AH} {j : Int} (e : c σ h = some (.ok (.d (.int j)), h1)) (hj : -(2 ^ 62) ≤ j ∧ j < 2 ^ 62) : cIterA iRange1 (cCons c cNil) σ h = some (.ok ((intR 0 j.toNat).map .d), h1) := by
  unfold cIterA
  rw [bnd_ok (one_ok e)]
  refine lift_ok ?_
  show (if -(2 ^ 62) ≤ j ∧ j < 2 ^ 62 then _ else none) = _
  rw [if_pos hj]
/-! ### data that may be compared -/
structure Fit (k : Nat) (d : PyData) : Prop where
  lay : d.canLay0 = true
  dep : d.depth ≤ k
theorem Fit.mono {j k : Nat} {d : PyData} (f : Fit j d) (h : j ≤ k) : Fit k d := ⟨f.lay, Nat.le_trans f.dep h⟩
theorem Fit.shaped {k : Nat} {d : PyData} (f : Fit k d) (h : k ≤ 64 := by decide) : SeqAt.shaped d = true := by
  unfold SeqAt.shaped
  rw [f.lay, Bool.true_and]
  exact decide_eq_true (Nat.le_trans f.dep h)
theorem fit_int (i : Int) : Fit 1 (.int i) := ⟨rfl, by show (_ : Nat) ≤ 1; first | exact Nat.le_refl _ | exact Nat.zero_le _⟩
theorem fit_bl (i : Bool) : Fit 1 (.bool i) := ⟨rfl, by show (_ : Nat) ≤ 1; first | exact Nat.le_refl _ | exact Nat.zero_le _⟩
theorem fit_non : Fit 1 .none := ⟨rfl, by show (_ : Nat) ≤ 1; first | exact Nat.le_refl _ | exact Nat.zero_le _⟩
theorem fit_all {k : Nat} : ∀ {ds : List PyData}, (∀ d ∈ ds, Fit k d) → PyData.canLayAll0 ds = true ∧ PyData.depthAll ds ≤ k
  | [], _ => ⟨rfl, Nat.zero_le _⟩
  | d :: ds, h => by
    obtain ⟨a, b⟩ := fit_all fun e he => h e (List.mem_cons_of_mem _ he)
    have f := h d List.mem_cons_self
    refine ⟨?_, ?_⟩
    · show (d.canLay0 && PyData.canLayAll0 ds) = true
      rw [f.lay, a]; rfl
    · show max d.depth (PyData.depthAll ds) ≤ k
      exact Nat.max_le.mpr ⟨f.dep, b⟩
theorem fit_lst {k : Nat} {ds : List PyData} (h : ∀ d ∈ ds, Fit k d) : Fit (k + 1) (.list ds) := by
  obtain ⟨a, b⟩ := fit_all h
  exact ⟨a, by show PyData.depthAll ds + 1 ≤ k + 1; omega⟩
theorem fit_tup {k : Nat} {ds : List PyData} (h : ∀ d ∈ ds, Fit k d) : Fit (k + 1) (.tuple ds) := by
  obtain ⟨a, b⟩ := fit_all h
  exact ⟨a, by show PyData.depthAll ds + 1 ≤ k + 1; omega⟩
theorem fit_ints (ns : List Int) : Fit 2 (.list (ns.map .int)) := fit_lst fun d hd => by
  obtain ⟨i, _, rfl⟩ := List.mem_map.mp hd
  exact fit_int i
theorem fit_intT (ns : List Int) : Fit 2 (.tuple (ns.map .int)) := fit_tup fun d hd => by
  obtain ⟨i, _, rfl⟩ := List.mem_map.mp hd
  exact fit_int i
theorem notIn_list {x : PyData} {ds : List PyData} {j k : Nat} (f : Fit j x) (g : ∀ d ∈ ds, Fit k d) (hj : j ≤ 64 := by decide) (hk : k + 1 ≤ 64 := by decide) : dIn true x (.list ds) = some (.bool (!ds.any fun z => PyData.eqv z x)) := by
  unfold dIn
  simp only
  rw [if_pos ⟨f.shaped hj, (fit_lst g).shaped hk⟩]
  rfl
theorem in_list {x : PyData} {ds : List PyData} {j k : Nat} (f : Fit j x) (g : ∀ d ∈ ds, Fit k d) (hj : j ≤ 64 := by decide) (hk : k + 1 ≤ 64 := by decide) : dIn false x (.list ds) = some (.bool (ds.any fun z => PyData.eqv z x)) := by
  unfold dIn
  simp only
  rw [if_pos ⟨f.shaped hj, (fit_lst g).shaped hk⟩]
  rfl
/-! ### sorted tuples of ints -/
def tupI (xs : List Int) : PyData := .tuple (xs.map .int)
def sortI (l : List (List Int)) : List (List Int) := l.mergeSort fun a b => decide (a ≤ b)
theorem alike_ints : ∀ xs ys : List Int, PySem.W.alikeAll (xs.map .int) (ys.map .int) = true
  | [], _ => by cases ‹List Int› <;> rfl
  | _ :: _, [] => rfl
  | x :: xs, y :: ys => by
    show (PySem.W.alike (.int x) (.int y) && PySem.W.alikeAll (xs.map .int) (ys.map .int)) = true
    rw [alike_ints xs ys]
    rfl
theorem le_tupI (xs ys : List Int) : PySem.W.dataLe false id (tupI xs) (tupI ys) = decide (xs ≤ ys) := by
  show (!PySem.W.dataLt (tupI ys) (tupI xs)) = _
  unfold tupI
  rw [PySem.W.dataLt_tuple]
  show (!PySem.W.rowLt (ys.map .int) (xs.map .int)) = _
  rw [PySem.W.dataLt_ints, ← decide_not]
  exact decide_eq_decide.mpr List.not_lt
theorem fit_tupI (xs : List Int) : Fit 2 (tupI xs) := fit_intT xs
theorem sortD_tupI (l : List (List Int)) : sortD (l.map tupI) = (sortI l).map tupI := by
  rw [sortD_eq]
  unfold sortI
  exact (List.map_mergeSort fun a _ b _ => (le_tupI a b).symm).symm
theorem okSort_tupI (l : List (List Int)) : okSort (l.map tupI) = true := by
  unfold okSort
  rw [List.all_eq_true]
  intro d hd
  obtain ⟨xs, _, rfl⟩ := List.mem_map.mp hd
  rw [Bool.and_eq_true, Bool.and_eq_true]
  refine ⟨⟨?_, rfl⟩, decide_eq_true (Nat.le_trans (fit_tupI xs).dep (by decide))⟩
  rw [List.all_eq_true]
  intro e he
  obtain ⟨ys, _, rfl⟩ := List.mem_map.mp he
  exact alike_ints xs ys
theorem sorted_tupI (l : List (List Int)) : fSorted (.list (l.map tupI)) = some (.list ((sortI l).map tupI)) := by
  unfold fSorted
  simp only
  rw [if_pos (okSort_tupI l), sortD_tupI]
theorem sortI_perm (l : List (List Int)) : (sortI l).Perm l := List.mergeSort_perm _ _
theorem sortI_pw (l : List (List Int)) : (sortI l).Pairwise fun a b => a ≤ b := by
  have := List.pairwise_mergeSort (le := fun a b : List Int => decide (a ≤ b)) (fun a b c h1 h2 => decide_eq_true (List.le_trans (of_decide_eq_true h1) (of_decide_eq_true h2))) (fun a b => by
    rw [Bool.or_eq_true]
    exact (List.le_total a b).imp decide_eq_true decide_eq_true) l
  exact this.imp fun h => of_decide_eq_true h
theorem sortI_eq {l m : List (List Int)} (p : l.Perm m) : sortI l = sortI m :=
  List.Perm.eq_of_pairwise (le := fun a b => a ≤ b) (fun a b _ _ h1 h2 => List.le_antisymm h1 h2) (sortI_pw l) (sortI_pw m) ((sortI_perm l).trans (p.trans (sortI_perm m).symm))
theorem sortI_self (l : List (List Int)) : sortI (sortI l) = sortI l := sortI_eq (sortI_perm l)
theorem tupI_inj {xs ys : List Int} (h : tupI xs = tupI ys) : xs = ys := by
  have h1 : xs.map PyData.int = ys.map PyData.int := by
    unfold tupI at h
    injection h
  have : ∀ {a b : List Int}, a.map PyData.int = b.map PyData.int → a = b := by
    intro a
    induction a with
    | nil => intro b h; cases b with
      | nil => rfl
      | cons _ _ => cases h
    | cons x a ih => intro b h; cases b with
      | nil => cases h
      | cons y b =>
        rw [List.map_cons, List.map_cons] at h
        injection h with h2 h3
        injection h2 with h4
        rw [h4, ih h3]
  exact this h1
theorem eqv_ints : ∀ xs ys : List Int, PyData.eqvAll (xs.map .int) (ys.map .int) = decide (xs = ys)
  | [], [] => rfl
  | [], _ :: _ => rfl
  | _ :: _, [] => rfl
  | x :: xs, y :: ys => by
    show (PyData.eqv (.int x) (.int y) && PyData.eqvAll (xs.map .int) (ys.map .int)) = _
    rw [eqv_ints xs ys, show PyData.eqv (.int x) (.int y) = decide (x = y) from rfl]
    by_cases h1 : x = y <;> by_cases h2 : xs = ys <;> simp [h1, h2]
theorem eqv_tupI (xs ys : List Int) : PyData.eqv (tupI xs) (tupI ys) = decide (xs = ys) := eqv_ints xs ys
/-- a loop by an invariant, item by item -/
theorem sLoop_inv {g : CG} {b : CS} {P : Nat → SA → AH → Prop} : ∀ (xs : List Val) (i : Nat) (σ : SA) (h : AH), P i σ h →
    (∀ (j : Nat) x σ h, xs[j]? = some x → P (i + j) σ h → ∃ ups σ' h', g x h = some ups ∧ b (setAll σ ups) h = some (.nx σ', h') ∧ P (i + j + 1) σ' h') → ∃ σ' h', sLoop g b xs σ h = some (.nx σ', h') ∧ P (i + xs.length) σ' h'
  | [], i, σ, h, p, _ => ⟨σ, h, rfl, p⟩
  | x :: xs, i, σ, h, p, H => by
    obtain ⟨ups, σ1, h1, e1, e2, p1⟩ := H 0 x σ h rfl p
    obtain ⟨σ2, h2, e3, p2⟩ := sLoop_inv xs (i + 1) σ1 h1 p1 fun j y σ h ey q => by
      have := H (j + 1) y σ h (by simpa using ey) (by rw [show i + (j + 1) = i + 1 + j by omega]; exact q)
      rw [show i + (j + 1) + 1 = i + 1 + j + 1 by omega] at this
      exact this
    refine ⟨σ2, h2, ?_, by rw [List.length_cons, show i + (xs.length + 1) = i + 1 + xs.length by omega]; exact p2⟩
    rw [sLoop_nx e1 e2]
    exact e3
end MV
/-! The pure layer: codes that give data, without a heap. -/
namespace MP
open PySem MV

inductive PV where | u | d (x : PyData) | c (xs : List PyData) | o (v : Val) | t (kvs : List (List L2.Key × PyData))
abbrev kvV (kvs : List (List L2.Key × PyData)) : List (List L2.Key × Val) := kvs.map fun p => (p.1, .d p.2)
/-- an own object -/
def PV.cell : PV → Option Cell
  | .c xs => some (.lst (xs.map .d))
  | .t kvs => some (.dT (kvV kvs))
  | _ => none
abbrev PS := List PV
abbrev Px := PS → Option PyData
abbrev Pt := PS → Option Bool
abbrev Pa := PS → Option (List PyData)
abbrev Po := PS → Option (Option Int)
abbrev Pg := PyData → Option (List (Nat × PyData))

def SlotOk (n : Nat) (h : AH) : PV → Option Val → Prop
  | .u, _ => True
  | .d x, o => o = some (.d x)
  | .o x, o => o = some x
  | .c xs, o => ∃ l, o = some (.ref l) ∧ n ≤ l ∧ h[l]? = some (.lst (xs.map .d))
  | .t kvs, o => ∃ l, o = some (.ref l) ∧ n ≤ l ∧ h[l]? = some (.dT (kvV kvs))
theorem SlotOk.own {n : Nat} {h : AH} {v : PV} {o : Option Val} {x : Cell} (q : SlotOk n h v o) (e : v.cell = some x) : ∃ l, o = some (.ref l) ∧ n ≤ l ∧ h[l]? = some x := by
  cases v <;> first | (cases e; exact q) | cases e
theorem SlotOk.of {n : Nat} {h : AH} {v : PV} {l : Nat} {x : Cell} (e : v.cell = some x) (hn : n ≤ l) (hl : h[l]? = some x) : SlotOk n h v (some (.ref l)) := by
  cases v <;> first | (cases e; exact ⟨l, rfl, hn, hl⟩) | cases e
/-- what stands in a slot stays, if own cells stay -/
theorem SlotOk.move {n : Nat} {h h' : AH} {v : PV} {o : Option Val} (q : SlotOk n h v o) (f : ∀ l x, n ≤ l → o = some (.ref l) → v.cell = some x → h[l]? = some x → h'[l]? = some x) : SlotOk n h' v o := by
  cases v with
  | u => trivial
  | d x => exact q
  | o x => exact q
  | c xs => obtain ⟨l, a, b, c⟩ := q; exact ⟨l, a, b, f l _ b a rfl c⟩
  | t xs => obtain ⟨l, a, b, c⟩ := q; exact ⟨l, a, b, f l _ b a rfl c⟩

structure Rl (n : Nat) (s : PS) (σ : SA) (h : AH) : Prop where
  cl : Cl h
  nh : n ≤ h.length
  at_ : ∀ (i : Nat) (v : PV), s[i]? = some v → ∃ o, σ[i]? = some o ∧ SlotOk n h v o
  inj : ∀ (i j : Nat) (v w : PV) (l : Nat), s[i]? = some v → v.cell ≠ none → s[j]? = some w → w.cell ≠ none → σ[i]? = some (some (.ref l)) → σ[j]? = some (some (.ref l)) → i = j

theorem Rl.data {n : Nat} {s : PS} {σ : SA} {h : AH} {i : Nat} {x : PyData} (R : Rl n s σ h) (e : s[i]? = some (.d x)) : σ[i]? = some (some (.d x)) := by
  obtain ⟨o, e1, rfl⟩ := R.at_ i _ e
  exact e1
theorem Rl.ownC {n : Nat} {s : PS} {σ : SA} {h : AH} {i : Nat} {v : PV} {x : Cell} (R : Rl n s σ h) (e : s[i]? = some v) (hv : v.cell = some x) : ∃ l, σ[i]? = some (some (.ref l)) ∧ n ≤ l ∧ h[l]? = some x := by
  obtain ⟨o, e1, q⟩ := R.at_ i _ e
  obtain ⟨l, rfl, a, b⟩ := q.own hv
  exact ⟨l, e1, a, b⟩
theorem Rl.own {n : Nat} {s : PS} {σ : SA} {h : AH} {i : Nat} {xs : List PyData} (R : Rl n s σ h) (e : s[i]? = some (.c xs)) : ∃ l, σ[i]? = some (some (.ref l)) ∧ n ≤ l ∧ h[l]? = some (.lst (xs.map .d)) := R.ownC e rfl
/-- another cell behind -/
theorem Rl.push {n : Nat} {s : PS} {σ : SA} {h : AH} {x : Cell} (R : Rl n s σ h) (hx : Cell.below (h.length + 1) x = true) : Rl n s σ (h ++ [x]) := by
  refine ⟨R.cl.push hx, by rw [List.length_append]; exact Nat.le_trans R.nh (Nat.le_add_right _ _), fun i v e => ?_, R.inj⟩
  obtain ⟨o, e1, q⟩ := R.at_ i v e
  refine ⟨o, e1, q.move fun l y _ _ _ c => ?_⟩
  rw [List.getElem?_append_left (List.getElem?_eq_some_iff.mp c).1]
  exact c
theorem Rl.pushD {n : Nat} {s : PS} {σ : SA} {h : AH} (R : Rl n s σ h) (ds : List PyData) : Rl n s σ (h ++ [.lst (ds.map .d)]) := R.push (data_below ds)

def setP : PS → List (Nat × PyData) → PS
  | s, [] => s
  | s, (i, d) :: r => setP (s.set i (.d d)) r
def wipeP (s : PS) : List Nat → PS
  | [] => s
  | v :: vs => (wipeP s vs).set v .u
abbrev upsV (u : List (Nat × PyData)) : List (Nat × Val) := u.map fun p => (p.1, Val.d p.2)
theorem getElem?_set_cases {α : Type} {l : List α} {i j : Nat} {v w : α} (e : (l.set i v)[j]? = some w) : (i = j ∧ i < l.length ∧ w = v) ∨ (i ≠ j ∧ l[j]? = some w) := by
  by_cases h : i = j
  · subst h
    rw [List.getElem?_set_self'] at e
    cases hl : l[i]? with
    | none => rw [hl] at e; cases e
    | some z =>
      rw [hl] at e
      cases e
      exact .inl ⟨rfl, (List.getElem?_eq_some_iff.mp hl).1, rfl⟩
  · rw [List.getElem?_set_ne h] at e
    exact .inr ⟨h, e⟩
theorem set_get {α : Type} {l : List α} {i j : Nat} {v w : α} (h : i ≠ j) (e : l[j]? = some w) : (l.set i v)[j]? = some w := by rw [List.getElem?_set_ne h]; exact e
theorem Rl.lt {n : Nat} {s : PS} {σ : SA} {h : AH} {i : Nat} (R : Rl n s σ h) (hi : i < s.length) : i < σ.length := by
  obtain ⟨o, e, _⟩ := R.at_ i s[i] (List.getElem?_eq_getElem hi)
  exact (List.getElem?_eq_some_iff.mp e).1
/-- a slot is set to what stands for a value -/
theorem Rl.set {n : Nat} {s : PS} {σ : SA} {h : AH} (R : Rl n s σ h) (i : Nat) {v : PV} {o : Option Val} (q : SlotOk n h v o) (hv : v.cell = none) : Rl n (s.set i v) (σ.set i o) h := by
  refine ⟨R.cl, R.nh, fun j w e => ?_, fun j k x y l e1 n1 e2 n2 e3 e4 => ?_⟩
  · rcases getElem?_set_cases e with ⟨rfl, hi, rfl⟩ | ⟨hne, e⟩
    · exact ⟨o, by rw [List.getElem?_set_self (R.lt hi)], q⟩
    · obtain ⟨p, e1, e2⟩ := R.at_ j w e
      exact ⟨p, set_get hne e1, e2⟩
  · rcases getElem?_set_cases e1 with ⟨_, _, z⟩ | ⟨hj, e1⟩
    · exact absurd (z ▸ hv) n1
    rcases getElem?_set_cases e2 with ⟨_, _, z⟩ | ⟨hk, e2⟩
    · exact absurd (z ▸ hv) n2
    rw [List.getElem?_set_ne hj] at e3
    rw [List.getElem?_set_ne hk] at e4
    exact R.inj j k x y l e1 n1 e2 n2 e3 e4
theorem Rl.setD {n : Nat} {s : PS} {σ : SA} {h : AH} (R : Rl n s σ h) (i : Nat) (x : PyData) : Rl n (s.set i (.d x)) (σ.set i (some (.d x))) h := R.set i rfl rfl
theorem Rl.setU {n : Nat} {s : PS} {σ : SA} {h : AH} (R : Rl n s σ h) (i : Nat) (o : Option Val) : Rl n (s.set i .u) (σ.set i o) h := R.set i trivial rfl
theorem Rl.setAll {n h} : ∀ {u : List (Nat × PyData)} {s σ}, Rl n s σ h → Rl n (setP s u) (MV.setAll σ (upsV u)) h
  | [], _, _, R => R
  | (i, d) :: r, _, _, R => Rl.setAll (u := r) (R.setD i d)
theorem Rl.wipe {n : Nat} {s : PS} {σ : SA} {h : AH} (R : Rl n s σ h) : ∀ vs : List Nat, Rl n (wipeP s vs) (wipeA σ vs) h
  | [] => R
  | v :: vs => (R.wipe vs).setU v none
/-- a new own object at the heap's end -/
theorem Rl.newO {n : Nat} {s : PS} {σ : SA} {h : AH} (R : Rl n s σ h) (i : Nat) {v : PV} {c : Cell} (hv : v.cell = some c) (hb : Cell.below (h.length + 1) c = true) : Rl n (s.set i v) (σ.set i (some (.ref h.length))) (h ++ [c]) := by
  have R' := R.push hb
  refine ⟨R'.cl, R'.nh, fun j w e => ?_, fun j k x y l e1 n1 e2 n2 e3 e4 => ?_⟩
  · rcases getElem?_set_cases e with ⟨rfl, hi, rfl⟩ | ⟨hne, e⟩
    · exact ⟨_, List.getElem?_set_self (R.lt hi), SlotOk.of hv R.nh (by simp)⟩
    · obtain ⟨p, e1, e2⟩ := R'.at_ j w e
      exact ⟨p, set_get hne e1, e2⟩
  · have old : ∀ (j : Nat) (w : PV), s[j]? = some w → w.cell ≠ none → σ[j]? = some (some (Val.ref h.length)) → False := fun j w z1 z0 z2 => by
      obtain ⟨q, hq⟩ := Option.ne_none_iff_exists'.mp z0
      obtain ⟨l, a, b, c⟩ := R.ownC z1 hq
      rw [a] at z2
      cases z2
      rw [List.getElem?_eq_none (Nat.le_refl _)] at c
      cases c
    rcases getElem?_set_cases e1 with ⟨rfl, hj, _⟩ | ⟨hj, e1⟩
    · rw [List.getElem?_set_self (R.lt hj)] at e3
      cases e3
      rcases getElem?_set_cases e2 with ⟨rfl, _, _⟩ | ⟨hk, e2⟩
      · rfl
      · rw [List.getElem?_set_ne hk] at e4
        exact (old k y e2 n2 e4).elim
    · rw [List.getElem?_set_ne hj] at e3
      rcases getElem?_set_cases e2 with ⟨rfl, hk, _⟩ | ⟨hk, e2⟩
      · rw [List.getElem?_set_self (R.lt hk)] at e4
        cases e4
        exact (old j x e1 n1 e3).elim
      · rw [List.getElem?_set_ne hk] at e4
        exact R.inj j k x y l e1 n1 e2 n2 e3 e4
theorem Rl.newC {n : Nat} {s : PS} {σ : SA} {h : AH} (R : Rl n s σ h) (i : Nat) (xs : List PyData) : Rl n (s.set i (.c xs)) (σ.set i (some (.ref h.length))) (h ++ [.lst (xs.map .d)]) := R.newO i rfl (data_below xs)
theorem Cl.setL {h : AH} (c : Cl h) (l : Nat) {x : Cell} (hx : x.below h.length = true) : Cl (h.set l x) := by
  unfold Cl at c ⊢
  rw [List.length_set]
  rw [List.all_eq_true] at c ⊢
  intro y hy
  rcases List.mem_or_eq_of_mem_set hy with hy | rfl
  · exact c y hy
  · exact hx
/-- an own object changes -/
theorem Rl.updO {n : Nat} {s : PS} {σ : SA} {h : AH} {i : Nat} {v v' : PV} {c c' : Cell} (R : Rl n s σ h) (e : s[i]? = some v) (hv : v.cell = some c) (hv' : v'.cell = some c') (hb : ∀ m, Cell.below m c' = true) : ∃ l, σ[i]? = some (some (.ref l)) ∧ n ≤ l ∧ h[l]? = some c ∧ Rl n (s.set i v') σ (h.set l c') := by
  obtain ⟨l, a, b, cc⟩ := R.ownC e hv
  have hl : l < h.length := (List.getElem?_eq_some_iff.mp cc).1
  refine ⟨l, a, b, cc, Cl.setL R.cl l (hb _), by rw [List.length_set]; exact R.nh, fun j w z => ?_, fun j k x y m e1 n1 e2 n2 e3 e4 => ?_⟩
  · rcases getElem?_set_cases z with ⟨rfl, hi, rfl⟩ | ⟨hne, z⟩
    · exact ⟨_, a, SlotOk.of hv' b (by rw [List.getElem?_set_self hl])⟩
    · obtain ⟨o, e1, q⟩ := R.at_ j w z
      refine ⟨o, e1, q.move fun m x _ om wm hm => ?_⟩
      have : l ≠ m := fun hlm => hne (R.inj i j v w l e (by rw [hv]; simp) z (by rw [wm]; simp) a (by rw [e1, om, hlm]))
      rw [List.getElem?_set_ne this]
      exact hm
  · have f : ∀ (j : Nat) (x : PV), (s.set i v')[j]? = some x → x.cell ≠ none → ∃ x' : PV, s[j]? = some x' ∧ x'.cell ≠ none := fun j x z z0 => by
      rcases getElem?_set_cases z with ⟨rfl, _, _⟩ | ⟨_, z⟩
      · exact ⟨_, e, by rw [hv]; simp⟩
      · exact ⟨_, z, z0⟩
    obtain ⟨x', z1, y1⟩ := f j x e1 n1
    obtain ⟨x2, z2, y2⟩ := f k y e2 n2
    exact R.inj j k x' x2 m z1 y1 z2 y2 e3 e4
theorem Rl.updC {n : Nat} {s : PS} {σ : SA} {h : AH} {i : Nat} {xs : List PyData} (R : Rl n s σ h) (e : s[i]? = some (.c xs)) (ys : List PyData) : ∃ l, σ[i]? = some (some (.ref l)) ∧ n ≤ l ∧ h[l]? = some (.lst (xs.map .d)) ∧ Rl n (s.set i (.c ys)) σ (h.set l (.lst (ys.map .d))) := R.updO e rfl rfl fun m => data_below ys
theorem kv_below (kvs : List (List L2.Key × PyData)) (m : Nat) : Cell.below m (.dT (kvV kvs)) = true := by
  show (kvV kvs).all _ = true
  rw [List.all_eq_true]
  intro p hp
  obtain ⟨q, _, rfl⟩ := List.mem_map.mp hp
  rfl
/-- .. and is given up -/
theorem Rl.fz {n : Nat} {s : PS} {σ : SA} {h : AH} {i : Nat} {xs : List PyData} (R : Rl n s σ h) (e : s[i]? = some (.c xs)) : ∃ l, σ[i]? = some (some (.ref l)) ∧ n ≤ l ∧ h[l]? = some (.lst (xs.map .d)) ∧ Rl n (s.set i (.d (.list xs))) (σ.set i (some (.d (.list xs)))) (h.set l .dead) := by
  obtain ⟨l, a, b, c⟩ := R.own e
  have hl : l < h.length := (List.getElem?_eq_some_iff.mp c).1
  refine ⟨l, a, b, c, Cl.setL R.cl l rfl, by rw [List.length_set]; exact R.nh, fun j w z => ?_, fun j k x y m e1 n1 e2 n2 e3 e4 => ?_⟩
  · rcases getElem?_set_cases z with ⟨rfl, hi, rfl⟩ | ⟨hne, z⟩
    · exact ⟨_, List.getElem?_set_self (R.lt hi), rfl⟩
    · obtain ⟨o, e1, q⟩ := R.at_ j w z
      refine ⟨o, set_get hne e1, q.move fun m x _ om wm hm => ?_⟩
      have : l ≠ m := fun hlm => hne (R.inj i j _ w l e (by simp [PV.cell]) z (by rw [wm]; simp) a (by rw [e1, om, hlm]))
      rw [List.getElem?_set_ne this]
      exact hm
  · rcases getElem?_set_cases e1 with ⟨_, _, z⟩ | ⟨hj, e1⟩
    · rw [z] at n1; exact absurd rfl n1
    rcases getElem?_set_cases e2 with ⟨_, _, z⟩ | ⟨hk, e2⟩
    · rw [z] at n2; exact absurd rfl n2
    rw [List.getElem?_set_ne hj] at e3
    rw [List.getElem?_set_ne hk] at e4
    exact R.inj j k x y m e1 n1 e2 n2 e3 e4

/-! ### what pure code says of code -/
structure QE (c : CE) (p : Px) : Prop where
  ok : ∀ {n : Nat} {s : PS} {σ : SA} {h : AH} {x}, Rl n s σ h → p s = some x → c σ h = some (.ok (.d x), h)
structure QV (c : CE) (p : Px) : Prop where
  ok : ∀ {n : Nat} {s : PS} {σ : SA} {h : AH} {x}, Rl n s σ h → p s = some x → ∃ v, c σ h = some (.ok v, h) ∧ viewM v h = some x
structure QT (c : CT) (p : Pt) : Prop where
  ok : ∀ {n : Nat} {s : PS} {σ : SA} {h : AH} {x}, Rl n s σ h → p s = some x → c σ h = some (.ok x, h)
structure QA (c : CA) (p : Pa) : Prop where
  ok : ∀ {n : Nat} {s : PS} {σ : SA} {h : AH} {x}, Rl n s σ h → p s = some x → c σ h = some (.ok (x.map .d), h)
structure QI (c : CI) (p : Pa) : Prop where
  ok : ∀ {n : Nat} {s : PS} {σ : SA} {h : AH} {x}, Rl n s σ h → p s = some x → c σ h = some (.ok (x.map .d), h)
structure QO (c : CO) (p : Po) : Prop where
  ok : ∀ {n : Nat} {s : PS} {σ : SA} {h : AH} {x}, Rl n s σ h → p s = some x → c σ h = some (.ok x, h)
structure QG (g : CG) (p : Pg) : Prop where
  ok : ∀ {x u}, p x = some u → ∀ h, g (.d x) h = some (upsV u)
structure QD (c : List Val → M Val) (p : List PyData → Option PyData) : Prop where
  ok : ∀ {as x h}, Cl h → p as = some x → c (as.map .d) h = some (.ok (.d x), h)
inductive PF where | nx (s : PS) | rt (x : PyData) | bk (s : PS) | ct (s : PS)
def EndOk (n : Nat) (h0 : AH) : PF → Fl → AH → Prop
  | .nx s', .nx σ', h' => Rl n s' σ' h' ∧ h'.take n = h0.take n
  | .rt x, .rt v, h' => v = .d x ∧ n ≤ h'.length ∧ h'.take n = h0.take n
  | .bk s', .bk σ', h' => Rl n s' σ' h' ∧ h'.take n = h0.take n
  | .ct s', .ct σ', h' => Rl n s' σ' h' ∧ h'.take n = h0.take n
  | _, _, _ => False
structure QS (c : CS) (p : PS → Option PF) : Prop where
  ok : ∀ {n : Nat} {s : PS} {σ : SA} {h : AH} {f}, Rl n s σ h → p s = some f → ∃ g h', c σ h = some (g, h') ∧ EndOk n h f g h'
theorem viewMD {v : Val} {h : AH} {x : PyData} (e : viewM v h = some x) : viewD v h = some x := viewM_D e
theorem QE.v {c p} (q : QE c p) : QV c p := ⟨fun R e => ⟨_, q.ok R e, rfl⟩⟩
theorem QV.d {c p} (q : QV c p) {n s σ h x} (R : Rl n s σ h) (e : p s = some x) : ∃ v, c σ h = some (.ok v, h) ∧ viewD v h = some x := (fun ⟨v, a, b⟩ => ⟨v, a, viewMD b⟩) (q.ok R e)
theorem EndOk.trans {n h0 h1 f g h'} (e : EndOk n h1 f g h') (t : h1.take n = h0.take n) : EndOk n h0 f g h' := by
  cases f <;> cases g <;> first
    | exact ⟨e.1, e.2.trans t⟩
    | exact ⟨e.1, e.2.1, e.2.2.trans t⟩
    | exact e.elim

/-! ### expressions -/
abbrev bd {α β : Type} (a : Option α) (f : α → Option β) : Option β := Option.bind a f
theorem bd_some {α β : Type} {a : Option α} {f : α → Option β} {y : β} (e : bd a f = some y) : ∃ x, a = some x ∧ f x = some y := Option.bind_eq_some_iff.mp e
def pVar (i : Nat) : Px := fun s => match s[i]? with
  | some (.d x) => some x
  | _ => none
def pVarV (i : Nat) : Px := fun s => match s[i]? with
  | some (.d x) => some x
  | some (.c xs) => some (.list xs)
  | _ => none
theorem pVar_some {i : Nat} {s : PS} {x : PyData} (e : pVar i s = some x) : s[i]? = some (.d x) := by
  unfold pVar at e
  split at e
  · rename_i h; cases e; exact h
  · cases e
theorem qVar (i : Nat) : QE (cVar i) (pVar i) := ⟨fun R e => var_ok (R.data (pVar_some e))⟩
theorem viewM_own {h : AH} {l : Nat} {xs : List PyData} (e : h[l]? = some (.lst (xs.map .d))) : viewM (.ref l) h = some (.list xs) := by
  show viewD (.ref l) h = _
  unfold viewD
  simp only [e, allD_d, Option.map_some]
theorem qVarV (i : Nat) : QV (cVar i) (pVarV i) := ⟨fun {n s σ h x} R e => by
  unfold pVarV at e
  split at e
  · rename_i q; cases e; exact ⟨_, var_ok (R.data q), rfl⟩
  · rename_i xs q; cases e
    obtain ⟨l, a, b, c⟩ := R.own q
    exact ⟨_, var_ok a, viewM_own c⟩
  · cases e⟩
def pK (d : PyData) : Px := fun _ => some d
theorem qK (d : PyData) : QE (cK d) (pK d) := ⟨fun R e => by cases e; rfl⟩
def pOp (f : PyData → PyData → Option PyData) (a b : Px) : Px := fun s => bd (a s) fun x => bd (b s) fun y => f x y
section
variable {a b e : CE} {pa pb pe : Px} {f : PyData → PyData → Option PyData}
theorem qOp (ha : QV a pa) (hb : QV b pb) : QE (cOp (gD f) a b) (pOp f pa pb) := ⟨fun R e => by
  obtain ⟨x, e1, e⟩ := bd_some e
  obtain ⟨y, e2, e⟩ := bd_some e
  obtain ⟨v, z1, w1⟩ := ha.d R e1
  obtain ⟨w, z2, w2⟩ := hb.d R e2
  refine op_ok z1 z2 ?_
  unfold gD
  rw [w1, w2]
  simp only [e, Option.map_some]⟩
theorem qOpM (ha : QV a pa) (hb : QV b pb) : QE (cOp (gDM f) a b) (pOp f pa pb) := ⟨fun R e => by
  obtain ⟨x, e1, e⟩ := bd_some e
  obtain ⟨y, e2, e⟩ := bd_some e
  obtain ⟨v, z1, w1⟩ := ha.ok R e1
  obtain ⟨w, z2, w2⟩ := hb.ok R e2
  refine op_ok z1 z2 ?_
  unfold gDM
  rw [w1, w2]
  simp only [e, Option.map_some]⟩
def dIx : PyData → PyData → Option PyData
  | .list ds, .int i => L2.atI ds i
  | .tuple ds, .int i => L2.atI ds i
  | _, _ => none
theorem atI_map {α β : Type} (f : α → β) (xs : List α) (i : Int) : L2.atI (xs.map f) i = (L2.atI xs i).map f := by
  unfold L2.atI
  rw [List.length_map]
  cases L2.ixN xs.length i with
  | none => rfl
  | some j => simp only [Option.bind_some, List.getElem?_map]
theorem allD_inv : ∀ {xs : List Val} {ds : List PyData}, allD xs = some ds → xs = ds.map .d
  | [], ds, e => by cases e; rfl
  | .d x :: r, ds, e => by
    unfold allD at e
    cases h3 : allD r with
    | none => rw [h3] at e; cases e
    | some ys => rw [h3] at e; cases e; rw [allD_inv h3]; rfl
  | .ref _ :: _, ds, e => by cases e
  | .fl _ :: _, ds, e => by cases e
theorem view_cases {v : Val} {h : AH} {x : PyData} (e : viewM v h = some x) : v = .d x ∨ ∃ l xs, v = .ref l ∧ h[l]? = some (.lst (xs.map Val.d)) ∧ x = .list xs := by
  cases v with
  | d y => cases e; exact .inl rfl
  | fl _ => cases e
  | ref l =>
    refine .inr ?_
    have e : (match h[l]? with | some (.lst xs) => (allD xs).map .list | _ => none) = some x := e
    split at e
    · rename_i xs q
      cases h3 : allD xs with
      | none => rw [h3] at e; cases e
      | some ys => rw [h3] at e; cases e; exact ⟨l, ys, rfl, by rw [q, allD_inv h3], rfl⟩
    · cases e
theorem qIx (ha : QV a pa) (hb : QE b pb) : QE (cOp gIx a b) (pOp dIx pa pb) := ⟨fun {n s σ h x} R e => by
  obtain ⟨x0, e1, e⟩ := bd_some e
  obtain ⟨y, e2, e⟩ := bd_some e
  obtain ⟨v, z1, w1⟩ := ha.ok R e1
  refine op_ok z1 (hb.ok R e2) ?_
  unfold dIx at e
  split at e
  · rcases view_cases w1 with rfl | ⟨l, xs, rfl, q, z⟩
    · unfold gIx; simp only [asI, e, Option.map_some]
    · cases z; unfold gIx; simp only [asI, q, atI_map, e, Option.map_some]
  · rcases view_cases w1 with rfl | ⟨l, xs, rfl, q, z⟩
    · unfold gIx; simp only [asI, e, Option.map_some]
    · cases z
  · cases e⟩
def pNeg (a : Px) : Px := fun s => bd (a s) fun x => match x with
  | .int i => some (.int (-i))
  | _ => none
theorem qNeg (ha : QV a pa) : QE (cNeg a) (pNeg pa) := ⟨fun R e => by
  obtain ⟨x, e1, e⟩ := bd_some e
  obtain ⟨v, z1, w1⟩ := ha.d R e1
  unfold cNeg
  rw [bnd_ok z1]
  refine lift_ok ?_
  rw [w1]
  split at e
  · cases e; rfl
  · cases e⟩
def pTest (a : Px) : Pt := fun s => bd (a s) fun x => match x with
  | .bool b => some b
  | _ => none
theorem qTest (ha : QE a pa) : QT (cTest a) (pTest pa) := ⟨fun R e => by
  obtain ⟨x, e1, e⟩ := bd_some e
  split at e
  · cases e; exact test_ok (ha.ok R e1)
  · cases e⟩
def pTru (a : Px) : Pt := fun s => bd (a s) truD
theorem qTru (ha : QV a pa) : QT (cTru a) (pTru pa) := ⟨fun R e => by
  obtain ⟨x, e1, e⟩ := bd_some e
  obtain ⟨v, z1, w1⟩ := ha.d R e1
  unfold cTru
  rw [bnd_ok z1]
  refine lift_ok ?_
  rw [w1]
  simp only [e, Option.map_some]⟩
variable {t u : CT} {pt pu : Pt}
def pNot (a : Pt) : Pt := fun s => bd (a s) fun b => some (!b)
theorem qNot (ht : QT t pt) : QT (cNot t) (pNot pt) := ⟨fun R e => by
  obtain ⟨x, e1, e⟩ := bd_some e
  cases e
  exact not_ok (ht.ok R e1)⟩
def pAnd (a b : Pt) : Pt := fun s => bd (a s) fun k => if k = true then b s else some false
def pOr (a b : Pt) : Pt := fun s => bd (a s) fun k => if k = true then some true else b s
theorem qAnd (ht : QT t pt) (hu : QT u pu) : QT (cAnd t u) (pAnd pt pu) := ⟨fun R e => by
  obtain ⟨x, e1, e⟩ := bd_some e
  unfold cAnd
  rw [bnd_ok (ht.ok R e1)]
  cases x with
  | true => rw [if_pos rfl] at e ⊢; exact hu.ok R e
  | false => rw [if_neg Bool.false_ne_true] at e ⊢; cases e; rfl⟩
theorem qOr (ht : QT t pt) (hu : QT u pu) : QT (cOr t u) (pOr pt pu) := ⟨fun R e => by
  obtain ⟨x, e1, e⟩ := bd_some e
  unfold cOr
  rw [bnd_ok (ht.ok R e1)]
  cases x with
  | true => rw [if_pos rfl] at e ⊢; cases e; rfl
  | false => rw [if_neg Bool.false_ne_true] at e ⊢; exact hu.ok R e⟩
def pYes : Pt := fun _ => some true
theorem qYes : QT cYes pYes := ⟨fun R e => by cases e; rfl⟩
def pAndV (a b : Px) : Px := fun s => bd (pTest a s) fun k => if k = true then b s else some (.bool false)
def pOrV (a b : Px) : Px := fun s => bd (pTest a s) fun k => if k = true then some (.bool true) else b s
def pNotV (a : Px) : Px := fun s => bd (pTest a s) fun k => some (.bool (!k))
theorem qAndV (ha : QE a pa) (hb : QE b pb) : QE (cAndV a b) (pAndV pa pb) := ⟨fun R e => by
  obtain ⟨x, e1, e⟩ := bd_some e
  unfold cAndV
  rw [bnd_ok ((qTest ha).ok R e1)]
  cases x with
  | true => rw [if_pos rfl] at e ⊢; exact hb.ok R e
  | false => rw [if_neg Bool.false_ne_true] at e ⊢; cases e; rfl⟩
theorem qOrV (ha : QE a pa) (hb : QE b pb) : QE (cOrV a b) (pOrV pa pb) := ⟨fun R e => by
  obtain ⟨x, e1, e⟩ := bd_some e
  unfold cOrV
  rw [bnd_ok ((qTest ha).ok R e1)]
  cases x with
  | true => rw [if_pos rfl] at e ⊢; cases e; rfl
  | false => rw [if_neg Bool.false_ne_true] at e ⊢; exact hb.ok R e⟩
theorem qNotV (ha : QE a pa) : QE (cNotV a) (pNotV pa) := ⟨fun R e => by
  obtain ⟨x, e1, e⟩ := bd_some e
  cases e
  unfold cNotV
  rw [bnd_ok ((qTest ha).ok R e1)]
  rfl⟩
def pIfE (t : Pt) (a b : Px) : Px := fun s => bd (t s) fun k => if k = true then a s else b s
theorem qIfE (ht : QT t pt) (ha : QE a pa) (hb : QE b pb) : QE (cIfE t a b) (pIfE pt pa pb) := ⟨fun R e => by
  obtain ⟨x, e1, e⟩ := bd_some e
  unfold cIfE
  rw [bnd_ok (ht.ok R e1)]
  cases x with
  | true => rw [if_pos rfl] at e ⊢; exact ha.ok R e
  | false => rw [if_neg Bool.false_ne_true] at e ⊢; exact hb.ok R e⟩
def pChain (f g : PyData → PyData → Option PyData) (a b c : Px) : Px := fun s => bd (a s) fun x => bd (b s) fun y => bd (f x y) fun z => match z with
  | .bool k => if k = true then bd (c s) fun w => g y w else some (.bool false)
  | _ => none
theorem gD_ok {f : PyData → PyData → Option PyData} {v w : Val} {h : AH} {x y z : PyData} (e1 : viewD v h = some x) (e2 : viewD w h = some y) (e : f x y = some z) : gD f v w h = some (.d z, h) := by
  unfold gD
  rw [e1, e2]
  simp only [e, Option.map_some]
theorem qChain {g : PyData → PyData → Option PyData} {c : CE} {pc : Px} (ha : QV a pa) (hb : QV b pb) (hc : QV c pc) : QE (cChain (gD f) (gD g) a b c) (pChain f g pa pb pc) := ⟨fun R e => by
  obtain ⟨x, e1, e⟩ := bd_some e
  obtain ⟨y, e2, e⟩ := bd_some e
  obtain ⟨z, e3, e⟩ := bd_some e
  obtain ⟨v, z1, w1⟩ := ha.d R e1
  obtain ⟨w, z2, w2⟩ := hb.d R e2
  unfold cChain
  rw [bnd_ok z1, bnd_ok z2, bnd_ok (lift_ok (gD_ok w1 w2 e3))]
  split at e
  · rename_i k
    have hk : lift (asB (.d (.bool k))) = fun h => some (.ok k, h) := by funext h; rfl
    rw [bnd_ok (show lift (asB (.d (.bool k))) _ = some (.ok k, _) from rfl)]
    cases k with
    | true =>
      rw [if_pos rfl] at e ⊢
      obtain ⟨q, e4, e⟩ := bd_some e
      obtain ⟨v3, z3, w3⟩ := hc.d R e4
      rw [bnd_ok z3]
      exact lift_ok (gD_ok w2 w3 e)
    | false => rw [if_neg Bool.false_ne_true] at e ⊢; cases e; rfl
  · cases e⟩
def pIsN (k : Bool) (a : Px) : Px := fun s => bd (a s) fun x => some (.bool (match x with
  | .none => k
  | _ => !k))
theorem qIsN {k : Bool} (ha : QE a pa) : QE (cIsN k a) (pIsN k pa) := ⟨fun R e => by
  obtain ⟨x, e1, e⟩ := bd_some e
  unfold cIsN
  rw [bnd_ok (ha.ok R e1)]
  refine lift_ok ?_
  rw [if_pos (show live (.d x) _ = true from rfl)]
  cases e
  cases x <;> cases k <;> rfl⟩
/-! ### arguments -/
def pNil : Pa := fun _ => some []
def pCons (a : Px) (r : Pa) : Pa := fun s => bd (a s) fun x => bd (r s) fun xs => some (x :: xs)
variable {r : CA} {pr : Pa}
theorem qNil : QA cNil pNil := ⟨fun R e => by cases e; rfl⟩
theorem qCons (ha : QE a pa) (hr : QA r pr) : QA (cCons a r) (pCons pa pr) := ⟨fun R e => by
  obtain ⟨x, e1, e⟩ := bd_some e
  obtain ⟨xs, e2, e⟩ := bd_some e
  cases e
  exact cons_ok (ha.ok R e1) (hr.ok R e2)⟩
def unSq : PyData → Option (List PyData)
  | .tuple ds => some ds
  | .list ds => some ds
  | _ => none
def pStar (a : Px) (r : Pa) : Pa := fun s => bd (a s) fun x => bd (unSq x) fun xs => bd (r s) fun ys => some (xs ++ ys)
theorem qStar (ha : QV a pa) (hr : QA r pr) : QA (cStar a r) (pStar pa pr) := ⟨fun R e => by
  obtain ⟨x, e1, e⟩ := bd_some e
  obtain ⟨xs, e2, e⟩ := bd_some e
  obtain ⟨ys, e3, e⟩ := bd_some e
  cases e
  obtain ⟨v, z1, w1⟩ := ha.d R e1
  unfold cStar
  rw [bnd_ok z1, bnd_ok (lift_ok (x := xs.map Val.d) (h' := _) (show gUnSeq v _ = some (xs.map Val.d, _) from by
    unfold gUnSeq
    rw [w1]
    unfold unSq at e2
    split at e2 <;> first | (cases e2; rfl) | cases e2)), bnd_ok (hr.ok R e3), List.map_append]
  rfl⟩
def pTup (r : Pa) : Px := fun s => bd (r s) fun xs => if xs.length ≤ sizeLine then some (.tuple xs) else none
def pLst (r : Pa) : Px := fun s => bd (r s) fun xs => if xs.length ≤ sizeLine then some (.list xs) else none
theorem qTup (hr : QA r pr) : QE (cAp gTup r) (pTup pr) := ⟨fun R e => by
  obtain ⟨x, e1, e⟩ := bd_some e
  refine ap_ok (hr.ok R e1) ?_
  unfold gTup
  rw [allD_d]
  simp only
  split at e
  · rename_i hl; cases e; rw [if_pos hl]
  · cases e⟩
theorem qLst (hr : QA r pr) : QE (cAp gLst r) (pLst pr) := ⟨fun R e => by
  obtain ⟨x, e1, e⟩ := bd_some e
  refine ap_ok (hr.ok R e1) ?_
  unfold gLst
  rw [allD_d]
  simp only
  split at e
  · rename_i hl; cases e; rw [if_pos hl]
  · cases e⟩
def pAp1 (f : PyData → Option PyData) (a : Px) : Px := fun s => bd (a s) f
theorem qAp1 {f : PyData → Option PyData} (ha : QV a pa) : QE (cAp (g1 f) (cCons a (cNil))) (pAp1 f pa) := ⟨fun R e => by
  obtain ⟨x, e1, e⟩ := bd_some e
  obtain ⟨v, z1, w1⟩ := ha.d R e1
  refine ap_ok (one_ok z1) ?_
  unfold g1
  simp only [w1, e, Option.map_some]⟩
theorem qAp2 (ha : QV a pa) (hb : QV b pb) : QE (cAp (g2 f) (cCons a (cCons b (cNil)))) (pOp f pa pb) := ⟨fun R e => by
  obtain ⟨x, e1, e⟩ := bd_some e
  obtain ⟨y, e2, e⟩ := bd_some e
  obtain ⟨v, z1, w1⟩ := ha.d R e1
  obtain ⟨w, z2, w2⟩ := hb.d R e2
  refine ap_ok (cons_ok z1 (one_ok z2)) ?_
  unfold g2
  simp only [w1, w2, e, Option.map_some]⟩
def pNoPart : Po := fun _ => some none
def pPart (a : Px) : Po := fun s => bd (a s) fun x => match x with
  | .int i => some (some i)
  | _ => none
theorem qNoPart : QO cNoPart pNoPart := ⟨fun R e => by cases e; rfl⟩
theorem qPart (ha : QE a pa) : QO (cPart a) (pPart pa) := ⟨fun R e => by
  obtain ⟨x, e1, e⟩ := bd_some e
  unfold cPart
  rw [bnd_ok (ha.ok R e1)]
  split at e
  · cases e; rfl
  · cases e⟩
def pSl (a : Px) (l u : Po) : Px := fun s => bd (a s) fun x => bd (l s) fun lo => bd (u s) fun hi => fSl x lo hi
theorem qSl {l u : CO} {pl pu : Po} (ha : QV a pa) (hl : QO l pl) (hu : QO u pu) : QE (cSl a l u) (pSl pa pl pu) := ⟨fun R e => by
  obtain ⟨x, e1, e⟩ := bd_some e
  obtain ⟨lo, e2, e⟩ := bd_some e
  obtain ⟨hi, e3, e⟩ := bd_some e
  obtain ⟨v, z1, w1⟩ := ha.d R e1
  unfold cSl
  rw [bnd_ok z1, bnd_ok (hl.ok R e2), bnd_ok (hu.ok R e3)]
  refine lift_ok ?_
  rw [w1]
  simp only [e, Option.map_some]⟩
def pBits (a : Px) : Px := fun s => bd (a s) fun x => match x with
  | .int i => some (.int (Builtin.Int.intBits i : Nat))
  | _ => none
theorem qBits (ha : QE a pa) : QE (cBits a) (pBits pa) := ⟨fun R e => by
  obtain ⟨x, e1, e⟩ := bd_some e
  unfold cBits
  rw [bnd_ok (ha.ok R e1)]
  split at e
  · cases e; rfl
  · cases e⟩
def pIsi (Ts : List String) (a : Px) : Px := fun s => bd (a s) fun x => some (.bool (Ts.any fun t => isN (tyN x) t))
theorem qIsi {Ts : List String} (ha : QV a pa) : QE (cIsi Ts a) (pIsi Ts pa) := ⟨fun R e => by
  obtain ⟨x, e1, e⟩ := bd_some e
  cases e
  obtain ⟨v, z1, w1⟩ := ha.d R e1
  unfold cIsi
  rw [bnd_ok z1]
  refine lift_ok ?_
  rw [w1]⟩
def pCnt (a b : Px) : Px := pOp (fun x y => match x, y with
  | .list ds, .int k => (intsOf ds).map fun ns => .int (ns.count k : Nat)
  | _, _ => none) a b
theorem qCnt (ha : QV a pa) (hb : QE b pb) : QE (cMt isL gCnt a (cCons b (cNil))) (pCnt pa pb) := ⟨fun R e => by
  obtain ⟨x, e1, e⟩ := bd_some e
  obtain ⟨y, e2, e⟩ := bd_some e
  obtain ⟨v, z1, w1⟩ := ha.d R e1
  unfold cMt
  rw [bnd_ok z1]
  dsimp only at e
  split at e
  · rename_i ds k _
    rw [bnd_ok (lift_ok (x := ()) (show (if isL v _ = true then some ((), _) else none) = _ from by unfold isL; rw [w1, if_pos rfl]))]
    rw [bnd_ok (one_ok (hb.ok R e2))]
    refine lift_ok ?_
    unfold gCnt
    rw [w1]
    cases hi : intsOf ds with
    | none => rw [hi] at e; cases e
    | some ns => rw [hi] at e; cases e; simp only [hi, Option.map_some]
  · cases e⟩
def pRg1 (mk : List PyData → PyData) (a : Px) : Px := fun s => bd (a s) fun x => match x with
  | .int j => if okR 0 j = true then some (mk (intR 0 (j - 0).toNat)) else none
  | _ => none
def pRg2 (mk : List PyData → PyData) (a b : Px) : Px := pOp (fun x y => match x, y with
  | .int i, .int j => if okR i j = true then some (mk (intR i (j - i).toNat)) else none
  | _, _ => none) a b
theorem qRg1 {mk : List PyData → PyData} (ha : QE a pa) : QE (cRg1 mk a) (pRg1 mk pa) := ⟨fun R e => by
  obtain ⟨x, e1, e⟩ := bd_some e
  unfold cRg1
  rw [bnd_ok (ha.ok R e1)]
  refine lift_ok ?_
  split at e
  · simp only [asI]
    split at e
    · rename_i hk; cases e; rw [if_pos hk]
    · cases e
  · cases e⟩
theorem qRg2 {mk : List PyData → PyData} (ha : QE a pa) (hb : QE b pb) : QE (cRg2 mk a b) (pRg2 mk pa pb) := ⟨fun R e => by
  obtain ⟨x, e1, e⟩ := bd_some e
  obtain ⟨y, e2, e⟩ := bd_some e
  unfold cRg2
  rw [bnd_ok (ha.ok R e1), bnd_ok (hb.ok R e2)]
  refine lift_ok ?_
  dsimp only at e
  split at e
  · simp only [asI]
    split at e
    · rename_i hk; cases e; rw [if_pos hk]
    · cases e
  · cases e⟩
def pSortSet (a : Px) : Px := fun s => bd (a s) fun x => match x with
  | .list ds => match intsOf ds with
    | some ns => if ns.length ≤ 1000 ∧ (sortU ns).length < 64 then some (.list ((sortU ns).map .int)) else none
    | none => none
  | _ => none
theorem qSortSet (ha : QV a pa) : QE (cSortSet a) (pSortSet pa) := ⟨fun R e => by
  obtain ⟨x, e1, e⟩ := bd_some e
  obtain ⟨v, z1, w1⟩ := ha.d R e1
  unfold cSortSet
  rw [bnd_ok z1]
  refine lift_ok ?_
  rw [w1]
  split at e
  · rename_i ds
    cases hi : intsOf ds with
    | none => rw [hi] at e; cases e
    | some ns =>
      rw [hi] at e
      simp only [hi] at e ⊢
      split at e
      · rename_i hk; cases e; rw [if_pos hk]
      · cases e
  · cases e⟩
def pCall (n : Nat) (pf : List PyData → Option PyData) (r : Pa) : Px := fun s => bd (r s) fun xs => if xs.length = n then pf xs else none
theorem qCall {n : Nat} {cf : List Val → M Val} {pf : List PyData → Option PyData} (hf : QD cf pf) (hr : QA r pr) : QE (cCall n cf r) (pCall n pf pr) := ⟨fun R e => by
  obtain ⟨xs, e1, e⟩ := bd_some e
  split at e
  · rename_i hn; exact call_ok (hr.ok R e1) (by rw [List.length_map]; exact hn) (hf.ok R.cl e)
  · cases e⟩
/-! ### what is walked -/
def pIter (a : Px) : Pa := fun s => bd (a s) unSq
theorem qIter (ha : QE a pa) : QI (cIter iData a) (pIter pa) := ⟨fun R e => by
  obtain ⟨x, e1, e⟩ := bd_some e
  unfold unSq at e
  split at e
  · cases e; exact iter_ok (.inl (ha.ok R e1))
  · cases e; exact iter_ok (.inr (ha.ok R e1))
  · cases e⟩
structure QW (f : List Val → O (List Val)) (p : List PyData → Option (List PyData)) : Prop where
  ok : ∀ {xs ys h}, p xs = some ys → f (xs.map .d) h = some (ys.map .d, h)
def pIterA (p : List PyData → Option (List PyData)) (r : Pa) : Pa := fun s => bd (r s) p
theorem qIterA {f : List Val → O (List Val)} {p : List PyData → Option (List PyData)} (hf : QW f p) (hr : QA r pr) : QI (cIterA f r) (pIterA p pr) := ⟨fun R e => by
  obtain ⟨xs, e1, e⟩ := bd_some e
  unfold cIterA
  rw [bnd_ok (hr.ok R e1)]
  exact lift_ok (hf.ok e)⟩
def wRange1 : List PyData → Option (List PyData)
  | [.int j] => if -(2 ^ 62) ≤ j ∧ j < 2 ^ 62 then some (intR 0 j.toNat) else none
  | _ => none
theorem qRange1 : QW iRange1 wRange1 := ⟨fun {xs ys h} e => by
  unfold wRange1 at e
  split at e
  · split at e
    · rename_i hk; cases e
      show (if _ then _ else _) = _
      rw [if_pos hk]
    · cases e
  · cases e⟩
def wRange2 : List PyData → Option (List PyData)
  | [.int i, .int j] => if (-(2 ^ 62) ≤ i ∧ i < 2 ^ 62) ∧ -(2 ^ 62) ≤ j ∧ j < 2 ^ 62 then some (intR i (j - i).toNat) else none
  | _ => none
theorem qRange2 : QW iRange2 wRange2 := ⟨fun {xs ys h} e => by
  unfold wRange2 at e
  split at e
  · split at e
    · rename_i hk; cases e
      show (if _ then _ else _) = _
      rw [if_pos hk]
    · cases e
  · cases e⟩
def wRange3 : List PyData → Option (List PyData)
  | [.int i, .int j, .int c] => if L2.RgC i j c ((Builtin.Range.rangeSize i j c).toNat) then some (intC i c ((Builtin.Range.rangeSize i j c).toNat)) else none
  | _ => none
theorem qRange3 : QW iRange3 wRange3 := ⟨fun {xs ys h} e => by
  unfold wRange3 at e
  split at e
  · split at e
    · rename_i hk; cases e
      show (if _ then _ else _) = _
      rw [if_pos hk]
    · cases e
  · cases e⟩
def wEnum : List PyData → Option (List PyData)
  | [.list ds] => some (enumD ds)
  | [.tuple ds] => some (enumD ds)
  | _ => none
theorem qEnum : QW iEnumF wEnum := ⟨fun {xs ys h} e => by
  unfold wEnum at e
  split at e
  · cases e; rfl
  · cases e; rfl
  · cases e⟩
def wZip : List PyData → Option (List PyData)
  | [.list ds, .list es] => some (zipD ds es)
  | [.tuple ds, .tuple es] => some (zipD ds es)
  | _ => none
theorem qZip : QW iZipF wZip := ⟨fun {xs ys h} e => by
  unfold wZip at e
  split at e
  · cases e; rfl
  · cases e; rfl
  · cases e⟩
end
/-! ### targets -/
def tN (i : Nat) : Pg := fun x => some [(i, x)]
def tAll : List Pg → List PyData → Option (List (Nat × PyData))
  | [], [] => some []
  | g :: gs, d :: ds => bd (g d) fun (u : List (Nat × PyData)) => bd (tAll gs ds) fun w => some (u ++ w)
  | _, _ => none
def tT (gs : List Pg) : Pg := fun x => match x with
  | .tuple ds => tAll gs ds
  | _ => none
theorem qN (i : Nat) : QG (gN i) (tN i) := ⟨fun e h => by cases e; rfl⟩
inductive QGs : List CG → List Pg → Prop
  | nil : QGs [] []
  | cons {g p gs ps} : QG g p → QGs gs ps → QGs (g :: gs) (p :: ps)
theorem QGs.ok : ∀ {gs : List CG} {ps : List Pg} {ds : List PyData} {u : List (Nat × PyData)}, QGs gs ps → tAll ps ds = some u → ∀ h, gAll gs (ds.map .d) h = some (upsV u)
  | _, _, [], _, .nil, e, h => by cases e; rfl
  | _, _, _ :: _, _, .nil, e, h => by cases e
  | _, _, [], _, .cons _ _, e, h => by cases e
  | _, _, d :: ds, u, .cons q r, e, h => by
    obtain ⟨a, e1, e⟩ := bd_some e
    obtain ⟨b, e2, e⟩ := bd_some e
    cases e
    rw [List.map_cons]
    unfold gAll
    rw [q.ok e1 h, r.ok e2 h]
    show some (upsV a ++ upsV b) = some (upsV (a ++ b))
    unfold upsV
    rw [List.map_append]
theorem qT {gs : List CG} {ps : List Pg} (q : QGs gs ps) : QG (gTupT gs) (tT ps) := ⟨fun {x u} e h => by
  unfold tT at e
  split at e
  · exact q.ok e h
  · cases e⟩
/-! ### comprehensions -/
def lcP (g : Pg) (tt : Pt) (te : Px) (s : PS) : List PyData → Option (List PyData)
  | [] => some []
  | x :: xs => bd (g x) fun u => bd (tt (setP s u)) fun k => if k = true then bd (te (setP s u)) fun y => bd (lcP g tt te s xs) fun ys => some (y :: ys) else lcP g tt te s xs
def pLc (ci : Pa) (own : List Nat) (g : Pg) (tt : Pt) (te : Px) : Px := fun s => bd (ci s) fun xs => if xs.length < sizeLine then bd (lcP g tt te (wipeP s own) xs) fun ys => some (.list ys) else none
section
variable {ci ci1 : CI} {own vs1 : List Nat} {g g1 : CG} {tt tt1 : CT} {te : CE} {pi pi1 : Pa} {pg pg1 : Pg} {pt pt1 : Pt} {pe : Px}
theorem lcL_p (hg : QG g pg) (ht : QT tt pt) (he : QE te pe) {n : Nat} {s : PS} {σ : SA} {L : Nat} : ∀ {xs ys acc : List PyData} {h : AH}, Rl n s σ h → L = h.length → acc.length + xs.length < sizeLine → lcP pg pt pe s xs = some ys →
    lcL g tt te L σ (xs.map .d) (h ++ [.lst (acc.map .d)]) = some (h ++ [.lst ((acc ++ ys).map .d)]) := by
  intro xs
  induction xs with
  | nil => intro ys acc h R hL hz e; cases e; rw [List.append_nil]; rfl
  | cons x xs ih =>
    intro ys acc h R hL hz e
    obtain ⟨u, e1, e⟩ := bd_some e
    obtain ⟨k, e2, e⟩ := bd_some e
    have R' := (R.pushD acc).setAll (u := u)
    rw [List.map_cons]
    unfold lcL
    rw [hg.ok e1]
    dsimp only
    rw [ht.ok R' e2]
    rw [List.length_cons] at hz
    cases k with
    | false =>
      rw [if_neg Bool.false_ne_true] at e
      dsimp only
      exact ih R hL (by omega) e
    | true =>
      rw [if_pos rfl] at e
      obtain ⟨y, e3, e⟩ := bd_some e
      obtain ⟨zs, e4, e⟩ := bd_some e
      cases e
      dsimp only
      rw [he.ok R' e3]
      dsimp only
      subst hL
      have e5 : (h ++ [Cell.lst (acc.map .d)])[h.length]? = some (.lst (acc.map .d)) := by simp
      rw [e5]
      dsimp only
      rw [if_pos (by rw [List.length_map]; omega)]
      have e6 : (h ++ [Cell.lst (acc.map .d)]).set h.length (.lst (acc.map .d ++ [.d y])) = h ++ [.lst ((acc ++ [y]).map .d)] := by
        rw [List.set_append_right _ _ (Nat.le_refl _), Nat.sub_self]
        simp
      rw [e6, ih R rfl (by rw [List.length_append, List.length_singleton]; omega) e4, List.append_assoc]
      rfl
theorem lcEnd_ok {h : AH} (c : Cl h) (ys : List PyData) : lcEnd h.length (h ++ [Cell.lst (ys.map .d)]) = some (.d (.list ys), h) := by
  unfold lcEnd
  have hc : (h ++ [Cell.lst (ys.map .d)]).take h.length = h := List.take_left
  rw [hc, if_pos ⟨by simp, c⟩]
  have e4 : (h ++ [Cell.lst (ys.map .d)])[h.length]? = some (.lst (ys.map .d)) := by simp
  rw [e4]
  dsimp only
  rw [allD_d]
  rfl
theorem qLc (hi : QI ci pi) (hg : QG g pg) (ht : QT tt pt) (he : QE te pe) : QE (cLc ci own g tt te) (pLc pi own pg pt pe) := ⟨fun {n s σ h x} R e => by
  obtain ⟨xs, e1, e⟩ := bd_some e
  split at e
  · rename_i hz
    obtain ⟨ys, e2, e⟩ := bd_some e
    cases e
    unfold cLc
    rw [bnd_ok (hi.ok R e1), lift_ap]
    have q := lcL_p hg ht he (acc := []) (R.wipe own) rfl (by rw [List.length_nil]; omega) e2
    rw [List.map_nil] at q
    rw [q]
    simp only [Option.bind_some, List.nil_append]
    rw [lcEnd_ok R.cl]
  · cases e⟩
def lcoP (g : Pg) (ct : Pt) (ci1 : Pa) (vs1 : List Nat) (g1 : Pg) (ct1 : Pt) (ce : Px) (s : PS) : List PyData → Option (List PyData)
  | [] => some []
  | x :: xs => bd (g x) fun u => bd (ct (setP s u)) fun k => if k = true then bd (ci1 (setP s u)) fun ys => bd (lcP g1 ct1 ce (wipeP (setP s u) vs1) ys) fun zs => bd (lcoP g ct ci1 vs1 g1 ct1 ce s xs) fun ws => some (zs ++ ws) else lcoP g ct ci1 vs1 g1 ct1 ce s xs
/-- how many there are at most -/
def lcoN (g : Pg) (ct : Pt) (ci1 : Pa) (s : PS) : List PyData → Option Nat
  | [] => some 0
  | x :: xs => bd (g x) fun u => bd (ct (setP s u)) fun k => if k = true then bd (ci1 (setP s u)) fun ys => bd (lcoN g ct ci1 s xs) fun n => some (ys.length + n) else lcoN g ct ci1 s xs
def pLc2 (ci : Pa) (own : List Nat) (g : Pg) (ct : Pt) (ci1 : Pa) (vs1 : List Nat) (g1 : Pg) (ct1 : Pt) (ce : Px) : Px := fun s => bd (ci s) fun xs => bd (lcoN g ct ci1 (wipeP s own) xs) fun n => if n < sizeLine then bd (lcoP g ct ci1 vs1 g1 ct1 ce (wipeP s own) xs) fun ys => some (.list ys) else none
theorem lcP_len {s : PS} : ∀ {xs ys : List PyData}, lcP pg pt pe s xs = some ys → ys.length ≤ xs.length
  | [], ys, e => by cases e; exact Nat.le_refl _
  | x :: xs, ys, e => by
    obtain ⟨u, e1, e⟩ := bd_some e
    obtain ⟨k, e2, e⟩ := bd_some e
    rw [List.length_cons]
    cases k with
    | false => rw [if_neg Bool.false_ne_true] at e; exact Nat.le_succ_of_le (lcP_len e)
    | true =>
      rw [if_pos rfl] at e
      obtain ⟨y, e3, e⟩ := bd_some e
      obtain ⟨zs, e4, e⟩ := bd_some e
      cases e
      rw [List.length_cons]
      exact Nat.succ_le_succ (lcP_len e4)
theorem lcO_p (hg : QG g pg) (ht : QT tt pt) (hi1 : QI ci1 pi1) (hg1 : QG g1 pg1) (ht1 : QT tt1 pt1) (he : QE te pe) {n : Nat} {s : PS} {σ : SA} {L : Nat} : ∀ {xs ys acc : List PyData} {h : AH} {N : Nat}, Rl n s σ h → L = h.length → lcoN pg pt pi1 s xs = some N → acc.length + N < sizeLine → lcoP pg pt pi1 vs1 pg1 pt1 pe s xs = some ys →
    lcO g tt ci1 vs1 g1 tt1 te L σ (xs.map .d) (h ++ [.lst (acc.map .d)]) = some (h ++ [.lst ((acc ++ ys).map .d)]) := by
  intro xs
  induction xs with
  | nil => intro ys acc h N R hL _ hz e; cases e; rw [List.append_nil]; rfl
  | cons x xs ih =>
    intro ys acc h N R hL eN hz e
    obtain ⟨u, e1, e⟩ := bd_some e
    obtain ⟨k, e2, e⟩ := bd_some e
    unfold lcoN at eN
    rw [e1] at eN
    simp only [bd, Option.bind_some] at eN
    rw [e2] at eN
    simp only [Option.bind_some] at eN
    have R' := (R.pushD acc).setAll (u := u)
    rw [List.map_cons]
    unfold lcO
    rw [hg.ok e1]
    dsimp only
    rw [ht.ok R' e2]
    cases k with
    | false =>
      rw [if_neg Bool.false_ne_true] at e eN
      dsimp only
      exact ih R hL eN hz e
    | true =>
      rw [if_pos rfl] at e eN
      obtain ⟨zs, e3, e⟩ := bd_some e
      obtain ⟨ws, e4, e⟩ := bd_some e
      obtain ⟨vs, e5, e⟩ := bd_some e
      cases e
      obtain ⟨_, q1, eN⟩ := bd_some eN
      rw [e3] at q1
      cases q1
      obtain ⟨M, q2, eN⟩ := bd_some eN
      cases eN
      dsimp only
      rw [hi1.ok R' e3]
      dsimp only
      have lw := lcP_len e4
      rw [lcL_p hg1 ht1 he ((R.setAll (u := u)).wipe vs1) hL (by omega) e4]
      simp only [Option.bind_some]
      rw [ih R hL q2 (by rw [List.length_append]; omega) e5, List.append_assoc]
theorem qLc2 (hi : QI ci pi) (hg : QG g pg) (ht : QT tt pt) (hi1 : QI ci1 pi1) (hg1 : QG g1 pg1) (ht1 : QT tt1 pt1) (he : QE te pe) : QE (cLc2 ci own g tt ci1 vs1 g1 tt1 te) (pLc2 pi own pg pt pi1 vs1 pg1 pt1 pe) := ⟨fun {n s σ h x} R e => by
  obtain ⟨xs, e1, e⟩ := bd_some e
  obtain ⟨N, e0, e⟩ := bd_some e
  split at e
  · rename_i hz
    obtain ⟨ys, e2, e⟩ := bd_some e
    cases e
    unfold cLc2
    rw [bnd_ok (hi.ok R e1), lift_ap]
    have q := lcO_p hg ht hi1 hg1 ht1 he (acc := []) (R.wipe own) rfl e0 (by rw [List.length_nil]; omega) e2
    rw [List.map_nil] at q
    rw [q]
    simp only [Option.bind_some, List.nil_append]
    rw [lcEnd_ok R.cl]
  · cases e⟩
/-! ### any, all -/
def gxP (st : Bool) (g : Pg) (te : Px) (s : PS) : List PyData → Option PyData
  | [] => some (.bool (!st))
  | x :: xs => bd (g x) fun u => bd (te (setP s u)) fun y => match y with
    | .bool b => if b = st then some (.bool st) else gxP st g te s xs
    | _ => none
def pGx (st : Bool) (ci : Pa) (own : List Nat) (g : Pg) (te : Px) : Px := fun s => bd (ci s) fun xs => gxP st g te (wipeP s own) xs
theorem gxL_p (hg : QG g pg) (he : QE te pe) {st : Bool} {n : Nat} {s : PS} {σ : SA} {h : AH} (R : Rl n s σ h) : ∀ {xs : List PyData} {y : PyData}, gxP st pg pe s xs = some y → gxL st g cYes te σ (xs.map .d) h = some (.ok (.d y), h)
  | [], y, e => by cases e; rfl
  | x :: xs, y, e => by
    obtain ⟨u, e1, e⟩ := bd_some e
    obtain ⟨z, e2, e⟩ := bd_some e
    rw [List.map_cons]
    unfold gxL
    rw [hg.ok e1]
    simp only [cYes, ret_ap, he.ok (R.setAll (u := u)) e2]
    split at e
    · split at e
      · rename_i hb; cases e; simp only; rw [if_pos hb]
      · rename_i hb; simp only; rw [if_neg hb]; exact gxL_p hg he R e
    · cases e
theorem qGx {st : Bool} (hi : QI ci pi) (hg : QG g pg) (he : QE te pe) : QE (cGx st ci own g cYes te) (pGx st pi own pg pe) := ⟨fun {n s σ h x} R e => by
  obtain ⟨xs, e1, e⟩ := bd_some e
  unfold cGx
  rw [bnd_ok (hi.ok R e1)]
  exact gxL_p hg he (R.wipe own) e⟩
end
/-! ### statements -/
section
variable {e : CE} {pe : Px} {t : CT} {pt : Pt} {a b : CS} {pa pb : PS → Option PF} {ci : CI} {pi : Pa} {g : CG} {pg : Pg} {r : CA} {pr : Pa}
def pSNil : PS → Option PF := fun s => some (.nx s)
theorem qSNil : QS sNil pSNil := ⟨fun R e => by cases e; exact ⟨_, _, rfl, R, rfl⟩⟩
def pNever : PS → Option PF := fun _ => none
theorem qNever {c : CS} : QS c pNever := ⟨fun R e => by cases e⟩
def pRet (e : Px) : PS → Option PF := fun s => bd (e s) fun x => some (.rt x)
theorem qRet (he : QE e pe) : QS (sRet e) (pRet pe) := ⟨fun R q => by
  obtain ⟨x, e1, q⟩ := bd_some q
  cases q
  exact ⟨_, _, ret_ok (he.ok R e1), rfl, R.nh, rfl⟩⟩
def pRetN : PS → Option PF := fun s => some (.rt .none)
theorem qRetN : QS sRetN pRetN := ⟨fun R q => by cases q; exact ⟨_, _, rfl, rfl, R.nh, rfl⟩⟩
def pDrop (e : Px) : PS → Option PF := fun s => bd (e s) fun _ => some (.nx s)
theorem qDrop (he : QE e pe) : QS (sDrop e) (pDrop pe) := ⟨fun R q => by
  obtain ⟨x, e1, q⟩ := bd_some q
  cases q
  exact ⟨_, _, drop_ok (he.ok R e1), R, rfl⟩⟩
def pIf (t : Pt) (a b : PS → Option PF) : PS → Option PF := fun s => bd (t s) fun k => if k = true then a s else b s
theorem qIf (ht : QT t pt) (ha : QS a pa) (hb : QS b pb) : QS (sIf t a b) (pIf pt pa pb) := ⟨fun R q => by
  obtain ⟨k, e1, q⟩ := bd_some q
  cases k with
  | true => rw [if_pos rfl] at q; obtain ⟨f, h', e2, z⟩ := ha.ok R q; exact ⟨f, h', if_t (ht.ok R e1) e2, z⟩
  | false => rw [if_neg Bool.false_ne_true] at q; obtain ⟨f, h', e2, z⟩ := hb.ok R q; exact ⟨f, h', if_f (ht.ok R e1) e2, z⟩⟩
def pSeq (a b : PS → Option PF) : PS → Option PF := fun s => bd (a s) fun f => match f with
  | .nx s' => b s'
  | f => some f
theorem qSeq (ha : QS a pa) (hb : QS b pb) : QS (sSeq a b) (pSeq pa pb) := ⟨fun {n s σ h f} R q => by
  obtain ⟨f1, e1, q⟩ := bd_some q
  obtain ⟨g, h1, z1, z2⟩ := ha.ok R e1
  cases f1 with
  | nx s1 =>
    cases g with
    | nx σ1 =>
      obtain ⟨g2, h2, z3, z4⟩ := hb.ok z2.1 q
      exact ⟨g2, h2, seq_nx z1 z3, z4.trans z2.2⟩
    | _ => exact z2.elim
  | rt x =>
    cases q
    cases g with
    | rt v => exact ⟨_, _, seq_rt z1, z2⟩
    | _ => exact z2.elim
  | bk s1 =>
    cases q
    cases g with
    | bk v => exact ⟨_, _, by unfold sSeq; rw [z1], z2⟩
    | _ => exact z2.elim
  | ct s1 =>
    cases q
    cases g with
    | ct v => exact ⟨_, _, by unfold sSeq; rw [z1], z2⟩
    | _ => exact z2.elim⟩
def pAsg (g : Pg) (e : Px) : PS → Option PF := fun s => bd (e s) fun x => bd (g x) fun u => some (.nx (setP s u))
theorem qAsg (hg : QG g pg) (he : QE e pe) : QS (sAsg g e) (pAsg pg pe) := ⟨fun {n s σ h f} R q => by
  obtain ⟨x, e1, q⟩ := bd_some q
  obtain ⟨u, e2, q⟩ := bd_some q
  cases q
  exact ⟨_, _, asg_ok (he.ok R e1) (hg.ok e2 h), R.setAll, rfl⟩⟩
def pTupS (gs : List Pg) (r : Pa) : PS → Option PF := fun s => bd (r s) fun xs => if xs.length ≤ sizeLine then bd (tAll gs xs) fun u => some (.nx (setP s u)) else none
theorem qTupS {gs : List CG} {ps : List Pg} (hg : QGs gs ps) (hr : QA r pr) : QS (sTup gs r) (pTupS ps pr) := ⟨fun {n s σ h f} R q => by
  obtain ⟨x, e1, q⟩ := bd_some q
  split at q
  · rename_i hl
    obtain ⟨u, e2, q⟩ := bd_some q
    cases q
    refine ⟨.nx (MV.setAll σ (upsV u)), h, ?_, R.setAll, rfl⟩
    unfold sTup sByA
    rw [hr.ok R e1]
    simp only
    rw [if_pos (by rw [List.length_map]; exact hl), hg.ok e2 h]
  · cases q⟩
def loopP (g : Pg) (b : PS → Option PF) : List PyData → PS → Option PF
  | [], s => some (.nx s)
  | x :: xs, s => bd (g x) fun u => bd (b (setP s u)) fun f => match f with
    | .nx s' => loopP g b xs s'
    | .ct s' => loopP g b xs s'
    | .bk s' => some (.nx s')
    | .rt x => some (.rt x)
def pFor (ci : Pa) (g : Pg) (b : PS → Option PF) : PS → Option PF := fun s => bd (ci s) fun xs => loopP g b xs s
theorem loop_p (hg : QG g pg) (hb : QS b pb) {n : Nat} : ∀ {xs : List PyData} {s : PS} {σ : SA} {h : AH} {f : PF}, Rl n s σ h → loopP pg pb xs s = some f → ∃ q h', sLoop g b (xs.map .d) σ h = some (q, h') ∧ EndOk n h f q h'
  | [], s, σ, h, f, R, e => by cases e; exact ⟨_, _, rfl, R, rfl⟩
  | x :: xs, s, σ, h, f, R, e => by
    obtain ⟨u, e1, e⟩ := bd_some e
    obtain ⟨f1, e2, e⟩ := bd_some e
    obtain ⟨q, h1, z1, z2⟩ := hb.ok (R.setAll (u := u)) e2
    have st : sLoop g b ((x :: xs).map .d) σ h = match some (q, h1) with
      | some (.nx σ', h') => sLoop g b (xs.map .d) σ' h'
      | some (.ct σ', h') => sLoop g b (xs.map .d) σ' h'
      | some (.bk σ', h') => some (.nx σ', h')
      | o => o := by
      rw [List.map_cons]
      show (match g (.d x) h with | none => none | some ups => _) = _
      rw [hg.ok e1]
      dsimp only
      rw [z1] <;> rfl
    rw [st]
    cases f1 with
    | nx s1 =>
      cases q with
      | nx σ1 =>
        obtain ⟨q2, h2, z3, z4⟩ := loop_p hg hb z2.1 e
        exact ⟨q2, h2, z3, z4.trans z2.2⟩
      | _ => exact z2.elim
    | ct s1 =>
      cases q with
      | ct σ1 =>
        obtain ⟨q2, h2, z3, z4⟩ := loop_p hg hb z2.1 e
        exact ⟨q2, h2, z3, z4.trans z2.2⟩
      | _ => exact z2.elim
    | bk s1 =>
      cases e
      cases q with
      | bk σ1 => exact ⟨_, _, rfl, z2⟩
      | _ => exact z2.elim
    | rt y =>
      cases e
      cases q with
      | rt v => exact ⟨_, _, rfl, z2⟩
      | _ => exact z2.elim
theorem qFor (hi : QI ci pi) (hg : QG g pg) (hb : QS b pb) : QS (sFor ci g b) (pFor pi pg pb) := ⟨fun {n s σ h f} R e => by
  obtain ⟨xs, e1, e⟩ := bd_some e
  obtain ⟨q, h', z1, z2⟩ := loop_p hg hb R e
  exact ⟨q, h', (for_ok (hi.ok R e1)).trans z1, z2⟩⟩
def pWhile (t : Pt) (b : PS → Option PF) : Nat → PS → Option PF
  | 0, _ => none
  | n + 1, s => bd (t s) fun k => if k = true then bd (b s) fun f => match f with
      | .nx s' => pWhile t b n s'
      | .ct s' => pWhile t b n s'
      | .bk s' => some (.nx s')
      | .rt x => some (.rt x)
    else some (.nx s)
theorem while_p (ht : QT t pt) (hb : QS b pb) {n : Nat} : ∀ {N : Nat} {s : PS} {σ : SA} {h : AH} {f : PF}, Rl n s σ h → pWhile pt pb N s = some f → ∃ q h', whileN t b N σ h = some (q, h') ∧ EndOk n h f q h'
  | 0, s, σ, h, f, R, e => by cases e
  | N + 1, s, σ, h, f, R, e => by
    obtain ⟨k, e1, e⟩ := bd_some e
    unfold whileN
    rw [ht.ok R e1]
    cases k with
    | false => rw [if_neg Bool.false_ne_true] at e; cases e; exact ⟨_, _, rfl, R, rfl⟩
    | true =>
      rw [if_pos rfl] at e
      obtain ⟨f1, e2, e⟩ := bd_some e
      obtain ⟨q, h1, z1, z2⟩ := hb.ok R e2
      dsimp only
      rw [z1]
      cases f1 with
      | nx s1 =>
        cases q with
        | nx σ1 =>
          obtain ⟨q2, h2, z3, z4⟩ := while_p ht hb z2.1 e
          exact ⟨q2, h2, z3, z4.trans z2.2⟩
        | _ => exact z2.elim
      | ct s1 =>
        cases q with
        | ct σ1 =>
          obtain ⟨q2, h2, z3, z4⟩ := while_p ht hb z2.1 e
          exact ⟨q2, h2, z3, z4.trans z2.2⟩
        | _ => exact z2.elim
      | bk s1 =>
        cases e
        cases q with
        | bk σ1 => exact ⟨_, _, rfl, z2⟩
        | _ => exact z2.elim
      | rt y =>
        cases e
        cases q with
        | rt v => exact ⟨_, _, rfl, z2⟩
        | _ => exact z2.elim
theorem qWhile {N : Nat} (ht : QT t pt) (hb : QS b pb) : QS (whileN t b N) (pWhile pt pb N) := ⟨fun R e => while_p ht hb R e⟩
def pAug (i : Nat) (f : Int → Int → Int) (e : Px) : PS → Option PF := fun s => bd (pVar i s) fun x => bd (e s) fun y => match x, y with
  | .int a, .int b => some (.nx (s.set i (.d (.int (f a b)))))
  | _, _ => none
theorem qAug {i : Nat} {f : Int → Int → Int} (he : QE e pe) : QS (sAug i f e) (pAug i f pe) := ⟨fun {n s σ h q} R e1 => by
  obtain ⟨x, e2, e1⟩ := bd_some e1
  obtain ⟨y, e3, e1⟩ := bd_some e1
  split at e1
  · rename_i a b _
    cases e1
    refine ⟨.nx (σ.set i (some (.d (.int (f a b))))), h, ?_, R.setD i _, rfl⟩
    unfold sAug
    rw [R.data (pVar_some e2)]
    simp only
    rw [sBy_ok (he.ok R e3)]
    rfl
  · cases e1⟩
/-! ### own lists -/
theorem take_app {h : AH} {n : Nat} (hn : n ≤ h.length) (x : AH) : (h ++ x).take n = h.take n := List.take_append_of_le_length hn
theorem take_set {h : AH} {n l : Nat} (hn : n ≤ l) (x : Cell) : (h.set l x).take n = h.take n := List.take_set_of_le hn
def pNewL (i : Nat) (r : Pa) : PS → Option PF := fun s => bd (r s) fun xs => if xs.length ≤ sizeLine then some (.nx (s.set i (.c xs))) else none
theorem qNewL {i : Nat} (hr : QA r pr) : QS (sAsg (gN i) (cAp gNewL r)) (pNewL i pr) := ⟨fun {n s σ h f} R e => by
  obtain ⟨xs, e1, e⟩ := bd_some e
  split at e
  · rename_i hl
    cases e
    refine ⟨_, _, asg_n (ap_ok (hr.ok R e1) (v := .ref h.length) (h2 := h ++ [.lst (xs.map .d)]) ?_), R.newC i xs, take_app R.nh _⟩
    unfold gNewL
    rw [if_pos (by rw [List.length_map]; exact hl)]
  · cases e⟩
def pApp (v : Nat) (e : Px) : PS → Option PF := fun s => match s[v]? with
  | some (.c xs) => bd (e s) fun y => if xs.length < sizeLine then some (.nx (s.set v (.c (xs ++ [y])))) else none
  | _ => none
theorem qApp {v : Nat} (he : QE e pe) : QS (sDrop (cMt isCl gApp (cVar v) (cCons e (cNil)))) (pApp v pe) := ⟨fun {n s σ h f} R q => by
  unfold pApp at q
  split at q
  · rename_i xs hv
    obtain ⟨y, e1, q⟩ := bd_some q
    split at q
    · rename_i hl
      cases q
      obtain ⟨l, a, b, c, R2⟩ := R.updC hv (xs ++ [y])
      have hc : isCl (.ref l) h = true := by unfold isCl; simp only [c]
      refine ⟨_, _, drop_ok (x := .d .none) (h' := h.set l (.lst ((xs ++ [y]).map .d))) ?_, R2, take_set b _⟩
      unfold cMt
      rw [bnd_ok (var_ok a), bnd_ok (lift_ok (x := ()) (h' := h) (by rw [if_pos hc])), bnd_ok (one_ok (he.ok R e1))]
      refine lift_ok ?_
      unfold gApp
      simp only [c]
      rw [if_pos (by rw [List.length_map]; exact hl), List.map_append]
      rfl
    · cases q
  · cases q⟩
def pFz (i : Nat) (k : PS → Option PF) : PS → Option PF := fun s => match s[i]? with
  | some (.c xs) => k (s.set i (.d (.list xs)))
  | _ => none
theorem qFz {i : Nat} (ha : QS a pa) : QS (sFz i a) (pFz i pa) := ⟨fun {n s σ h f} R q => by
  unfold pFz at q
  split at q
  · rename_i xs hv
    obtain ⟨l, e1, e2, e3, R2⟩ := R.fz hv
    obtain ⟨g, h', z1, z2⟩ := ha.ok R2 q
    refine ⟨g, h', ?_, z2.trans (take_set e2 _)⟩
    unfold sFz
    rw [e1]
    simp only [e3, allD_d]
    exact z1
  · cases q⟩
def pNewLc (i : Nat) (ci : Pa) (own : List Nat) (g : Pg) (tt : Pt) (te : Px) : PS → Option PF := fun s => bd (ci s) fun xs => if xs.length < sizeLine then bd (lcP g tt te (wipeP s own) xs) fun ys => some (.nx (s.set i (.c ys))) else none
theorem qNewLc {i : Nat} {own : List Nat} (hi : QI ci pi) (hg : QG g pg) (ht : QT t pt) (he : QE e pe) : QS (sAsg (gN i) (cLcN ci own g t e)) (pNewLc i pi own pg pt pe) := ⟨fun {n s σ h f} R q => by
  obtain ⟨xs, e1, q⟩ := bd_some q
  split at q
  · rename_i hz
    obtain ⟨ys, e2, q⟩ := bd_some q
    cases q
    refine ⟨_, _, asg_n (x := .ref h.length) (h' := h ++ [.lst (ys.map .d)]) ?_, R.newC i ys, take_app R.nh _⟩
    unfold cLcN
    rw [bnd_ok (hi.ok R e1), lift_ap]
    have q := lcL_p hg ht he (acc := []) (R.wipe own) rfl (by rw [List.length_nil]; omega) e2
    rw [List.map_nil] at q
    rw [q]
    simp only [Option.bind_some, List.nil_append]
    unfold lcEndN
    have e4 : (h ++ [Cell.lst (ys.map .d)])[h.length]? = some (.lst (ys.map .d)) := by simp
    rw [e4]
  · cases q⟩
/-- xs[i] = e, of an own list -/
def pSetL (v : Nat) (i e : Px) : PS → Option PF := fun s => bd (e s) fun y => match s[v]? with
  | some (.c xs) => bd (i s) fun j => match j with
    | .int k => bd (L2.ixN xs.length k) fun m => some (.nx (s.set v (.c (xs.set m y))))
    | _ => none
  | _ => none
theorem qSetL {v : Nat} {ei : CE} {pi' : Px} (hi : QE ei pi') (he : QE e pe) : QS (sStore setC (cVar v) ei e) (pSetL v pi' pe) := ⟨fun {n s σ h f} R q => by
  obtain ⟨y, e1, q⟩ := bd_some q
  split at q
  · rename_i xs hv
    obtain ⟨j, e2, q⟩ := bd_some q
    split at q
    · rename_i k
      obtain ⟨m, e3, q⟩ := bd_some q
      cases q
      obtain ⟨l, a, b, c, R2⟩ := R.updC hv (xs.set m y)
      refine ⟨.nx σ, _, ?_, R2, take_set b _⟩
      refine store_ok' (he.ok R e1) (var_ok a) (hi.ok R e2) ?_
      unfold setC
      simp only [asI, c, List.length_map, e3, Option.map_some, List.map_set]
    · cases q
  · cases q⟩
end
/-! ### defs -/
def pDef (n : Nat) (p : PS → Option PF) : List PyData → Option PyData := fun as => bd (p (as.map .d ++ List.replicate (n - as.length) .u)) fun f => match f with
  | .nx _ => some .none
  | .rt x => some x
  | _ => none
theorem Rl.start {h : AH} (c : Cl h) (as : List PyData) (k : Nat) : Rl h.length (as.map .d ++ List.replicate k .u) ((as.map Val.d).map some ++ List.replicate k none) h := by
  refine ⟨c, Nat.le_refl _, fun i v e => ?_, fun i j v w l e1 n1 _ _ _ _ => ?_⟩
  · rcases Nat.lt_or_ge i as.length with hi | hi
    · rw [List.getElem?_append_left (by rw [List.length_map]; exact hi), List.getElem?_map, List.getElem?_eq_getElem hi] at e
      cases e
      exact ⟨_, by rw [List.getElem?_append_left (by simpa using hi)]; simp [hi], rfl⟩
    · rw [List.getElem?_append_right (by rw [List.length_map]; exact hi), List.length_map] at e
      obtain ⟨hl, e⟩ := List.getElem?_eq_some_iff.mp e
      rw [List.getElem_replicate] at e
      cases e
      rw [List.length_replicate] at hl
      refine ⟨none, ?_, trivial⟩
      rw [List.getElem?_append_right (by simpa using hi)]
      simp [hl]
  · rcases Nat.lt_or_ge i as.length with hi | hi
    · rw [List.getElem?_append_left (by rw [List.length_map]; exact hi), List.getElem?_map, List.getElem?_eq_getElem hi] at e1
      cases e1
      exact absurd rfl n1
    · rw [List.getElem?_append_right (by rw [List.length_map]; exact hi), List.length_map] at e1
      obtain ⟨hl, e⟩ := List.getElem?_eq_some_iff.mp e1
      rw [List.getElem_replicate] at e
      cases e
      exact absurd rfl n1
theorem shut_back {h h' : AH} (c : Cl h) (hl : h.length ≤ h'.length) (e : h'.take h.length = h.take h.length) (x : PyData) : shut h.length (.d x) h' = h := by
  rw [List.take_length] at e
  unfold shut
  rw [e, if_pos ⟨rfl, c⟩]
theorem qDef {n : Nat} {c : CS} {p : PS → Option PF} (q : QS c p) : QD (cDef n c) (pDef n p) := ⟨fun {as x h} cl e => by
  obtain ⟨f, e1, e⟩ := bd_some e
  have R := Rl.start cl as (n - as.length)
  rw [show n - as.length = n - (as.map Val.d).length by rw [List.length_map]] at R
  rw [show n - as.length = n - (as.map Val.d).length by rw [List.length_map]] at e1
  obtain ⟨g, h', z1, z2⟩ := q.ok R e1
  cases f with
  | nx s =>
    cases e
    cases g with
    | nx σ => rw [cDef_nx z1, shut_back cl z2.1.nh z2.2]
    | _ => exact z2.elim
  | rt y =>
    cases e
    cases g with
    | rt v =>
      obtain ⟨rfl, hl, ht⟩ := z2
      rw [cDef_rt z1, shut_back cl hl ht]
    | _ => exact z2.elim
  | bk _ => cases e
  | ct _ => cases e⟩
theorem qNone {c : List Val → M Val} : QD c fun _ => none := ⟨fun _ e => by cases e⟩
def pPure (p : List PyData → Option PyData) : List PyData → Option PyData := fun as => bd (p as) fun x => if noL x = true then some x else none
theorem qPure {c : List Val → M Val} {p : List PyData → Option PyData} (q : QD c p) : QD (cPure c) (pPure p) := ⟨fun {as x h} cl e => by
  obtain ⟨y, e1, e⟩ := bd_some e
  split at e
  · rename_i hn
    cases e
    unfold cPure
    rw [allD_d]
    simp only
    rw [q.ok Cl.nil e1]
    simp only
    rw [if_pos hn]
  · cases e⟩
end MP
/-! Pure code by what is known of a def; lemmas of evaluation. -/
namespace MP
open PySem MV
open Classical in
noncomputable def pSpec (S : List PyData → PyData → Prop) : List PyData → Option PyData := fun as => if h : ∃ x, S as x then some h.choose else none
abbrev Meets (c : List Val → M Val) (S : List PyData → PyData → Prop) : Prop := ∀ as x, S as x → ∀ h, Cl h → c (as.map .d) h = some (.ok (.d x), h)
theorem qSpec {c : List Val → M Val} {S : List PyData → PyData → Prop} (H : Meets c S) : QD c (pSpec S) := ⟨fun {as x h} cl e => by
  unfold pSpec at e
  split at e
  · rename_i hx
    cases e
    exact H as _ hx.choose_spec h cl
  · cases e⟩
theorem pSpec_some {c : List Val → M Val} {S : List PyData → PyData → Prop} (H : Meets c S) {as : List PyData} {x : PyData} (s : S as x) : pSpec S as = some x := by
  unfold pSpec
  have hx : ∃ x, S as x := ⟨x, s⟩
  rw [dif_pos hx]
  have e1 := H as x s [] Cl.nil
  have e2 := H as _ hx.choose_spec [] Cl.nil
  rw [e1] at e2
  injection e2 with e3
  injection e3 with e4 _
  injection e4 with e5
  injection e5 with e6
  rw [← e6]
/-- a comprehension over data -/
theorem lcP_eq {g : Pg} {tt : Pt} {te : Px} {s : PS} {t : PyData → Bool} {f : PyData → PyData} : ∀ {xs : List PyData}, (∀ x ∈ xs, ∃ u, g x = some u ∧ tt (setP s u) = some (t x) ∧ (t x = true → te (setP s u) = some (f x))) → lcP g tt te s xs = some ((xs.filter t).map f)
  | [], _ => rfl
  | x :: xs, H => by
    obtain ⟨u, e1, e2, e3⟩ := H x List.mem_cons_self
    unfold lcP
    simp only [bd, e1, e2, Option.bind_some]
    rw [lcP_eq fun y hy => H y (List.mem_cons_of_mem _ hy)]
    cases ht : t x with
    | true => rw [if_pos rfl, List.filter_cons_of_pos ht]; simp only [e3 ht, Option.bind_some]; rfl
    | false => rw [if_neg Bool.false_ne_true, List.filter_cons_of_neg (by rw [ht]; exact Bool.false_ne_true)]
/-- .. without a test, over a list that is a map -/
theorem lcP_map {α : Type} {i : Nat} {te : Px} {s : PS} {a : α → PyData} {f : α → PyData} {xs : List α} (H : ∀ x ∈ xs, te (s.set i (.d (a x))) = some (f x)) : lcP (tN i) pYes te s (xs.map a) = some (xs.map f) := by
  induction xs with
  | nil => rfl
  | cons x xs ih =>
    rw [List.map_cons, List.map_cons]
    unfold lcP
    show bd (te (s.set i (.d (a x)))) _ = _
    rw [H x List.mem_cons_self]
    show bd (lcP (tN i) pYes te s (xs.map a)) _ = _
    rw [ih fun y hy => H y (List.mem_cons_of_mem _ hy)]
    rfl
/-- .. with a test -/
theorem lcP_filter {α : Type} {i : Nat} {tt : Pt} {te : Px} {s : PS} {a : α → PyData} {f : α → PyData} {t : α → Bool} {xs : List α} (Ht : ∀ x ∈ xs, tt (s.set i (.d (a x))) = some (t x)) (H : ∀ x ∈ xs, t x = true → te (s.set i (.d (a x))) = some (f x)) : lcP (tN i) tt te s (xs.map a) = some ((xs.filter t).map f) := by
  induction xs with
  | nil => rfl
  | cons x xs ih =>
    rw [List.map_cons]
    unfold lcP
    show bd (tt (s.set i (.d (a x)))) _ = _
    rw [Ht x List.mem_cons_self]
    have ih' := ih (fun y hy => Ht y (List.mem_cons_of_mem _ hy)) fun y hy => H y (List.mem_cons_of_mem _ hy)
    cases ht : t x with
    | true =>
      rw [List.filter_cons_of_pos ht]
      show bd (te (s.set i (.d (a x)))) _ = _
      rw [H x List.mem_cons_self ht]
      show bd (lcP (tN i) tt te s (xs.map a)) _ = _
      rw [ih']
      rfl
    | false =>
      rw [List.filter_cons_of_neg (by rw [ht]; exact Bool.false_ne_true)]
      exact ih'
theorem pLc_ok {ci : Pa} {own : List Nat} {g : Pg} {tt : Pt} {te : Px} {s : PS} {xs ys : List PyData} (h1 : ci s = some xs) (h2 : xs.length < sizeLine) (h3 : lcP g tt te (wipeP s own) xs = some ys) : pLc ci own g tt te s = some (.list ys) := by
  unfold pLc
  simp only [bd, h1, Option.bind_some]
  rw [if_pos h2, h3]
  rfl
theorem pGx_all {ci : Pa} {own : List Nat} {i : Nat} {te : Px} {s : PS} {α : Type} {a : α → PyData} {f : α → Bool} {xs : List α} (h1 : ci s = some (xs.map a)) (H : ∀ x ∈ xs, te ((wipeP s own).set i (.d (a x))) = some (.bool (f x))) : pGx false ci own (tN i) te s = some (.bool (xs.all f)) := by
  unfold pGx
  simp only [bd, h1, Option.bind_some]
  clear h1
  induction xs with
  | nil => rfl
  | cons x xs ih =>
    rw [List.map_cons]
    unfold gxP
    show bd (te ((wipeP s own).set i (.d (a x)))) _ = _
    rw [H x List.mem_cons_self]
    have := ih fun y hy => H y (List.mem_cons_of_mem _ hy)
    cases hf : f x with
    | true =>
      show (if true = false then some (PyData.bool false) else gxP false (tN i) te (wipeP s own) (xs.map a)) = _
      rw [if_neg (by decide), this, List.all_cons, hf, Bool.true_and]
    | false =>
      show (if false = false then some (PyData.bool false) else gxP false (tN i) te (wipeP s own) (xs.map a)) = _
      rw [if_pos rfl, List.all_cons, hf, Bool.false_and]
theorem bd_ok {α β : Type} {a : Option α} {f : α → Option β} {x : α} {r : Option β} (e : a = some x) (e2 : f x = r) : bd a f = r := by rw [e]; exact e2
theorem pOp_ok {f : PyData → PyData → Option PyData} {a b : Px} {s : PS} {x y : PyData} {r : Option PyData} (e1 : a s = some x) (e2 : b s = some y) (e3 : f x y = r) : pOp f a b s = r := bd_ok e1 (bd_ok e2 e3)
theorem pAp1_ok {f : PyData → Option PyData} {a : Px} {s : PS} {x : PyData} {r : Option PyData} (e1 : a s = some x) (e2 : f x = r) : pAp1 f a s = r := bd_ok e1 e2
theorem pSl_ok {a : Px} {l u : Po} {s : PS} {x : PyData} {lo hi : Option Int} {r : Option PyData} (e1 : a s = some x) (e2 : l s = some lo) (e3 : u s = some hi) (e4 : fSl x lo hi = r) : pSl a l u s = r := bd_ok e1 (bd_ok e2 (bd_ok e3 e4))
theorem pCons_ok {a : Px} {r : Pa} {s : PS} {x : PyData} {xs : List PyData} (e1 : a s = some x) (e2 : r s = some xs) : pCons a r s = some (x :: xs) := bd_ok e1 (bd_ok e2 rfl)
theorem pCall_ok {n : Nat} {pf : List PyData → Option PyData} {r : Pa} {s : PS} {xs : List PyData} {q : Option PyData} (e1 : r s = some xs) (hn : xs.length = n) (e2 : pf xs = q) : pCall n pf r s = q := bd_ok e1 (by rw [if_pos hn]; exact e2)
theorem pTest_ok {a : Px} {s : PS} {b : Bool} (e : a s = some (.bool b)) : pTest a s = some b := bd_ok e rfl
theorem pNot_ok {a : Pt} {s : PS} {b : Bool} (e : a s = some b) : pNot a s = some (!b) := bd_ok e rfl
theorem pTru_ok {a : Px} {s : PS} {x : PyData} {r : Option Bool} (e : a s = some x) (e2 : truD x = r) : pTru a s = r := bd_ok e e2
theorem pSeq_nx {a b : PS → Option PF} {s s' : PS} {r : Option PF} (e : a s = some (.nx s')) (e2 : b s' = r) : pSeq a b s = r := bd_ok e e2
theorem pSeq_rt {a b : PS → Option PF} {s : PS} {x : PyData} (e : a s = some (.rt x)) : pSeq a b s = some (.rt x) := bd_ok e rfl
theorem pIf_t {t : Pt} {a b : PS → Option PF} {s : PS} {r : Option PF} (e : t s = some true) (e2 : a s = r) : pIf t a b s = r := bd_ok e e2
theorem pIf_f {t : Pt} {a b : PS → Option PF} {s : PS} {r : Option PF} (e : t s = some false) (e2 : b s = r) : pIf t a b s = r := bd_ok e e2
theorem pRet_ok {a : Px} {s : PS} {x : PyData} (e : a s = some x) : pRet a s = some (.rt x) := bd_ok e rfl
theorem pDrop_ok {a : Px} {s : PS} {x : PyData} (e : a s = some x) : pDrop a s = some (.nx s) := bd_ok e rfl
theorem pFor_ok {ci : Pa} {g : Pg} {b : PS → Option PF} {s : PS} {xs : List PyData} {r : Option PF} (e1 : ci s = some xs) (e2 : loopP g b xs s = r) : pFor ci g b s = r := bd_ok e1 e2
theorem pIfE_t {t : Pt} {a b : Px} {s : PS} {r : Option PyData} (e : t s = some true) (e2 : a s = r) : pIfE t a b s = r := bd_ok e e2
theorem pIfE_f {t : Pt} {a b : Px} {s : PS} {r : Option PyData} (e : t s = some false) (e2 : b s = r) : pIfE t a b s = r := bd_ok e e2
theorem pAsg_n {i : Nat} {a : Px} {s : PS} {x : PyData} (e : a s = some x) : pAsg (tN i) a s = some (.nx (s.set i (.d x))) := bd_ok e rfl
theorem pDef_rt {n : Nat} {p : PS → Option PF} {as : List PyData} {x : PyData} (e : p (as.map .d ++ List.replicate (n - as.length) .u) = some (.rt x)) : pDef n p as = some x := bd_ok e rfl
theorem pDef_nx {n : Nat} {p : PS → Option PF} {as : List PyData} {s : PS} (e : p (as.map .d ++ List.replicate (n - as.length) .u) = some (.nx s)) : pDef n p as = some .none := bd_ok e rfl
theorem pAnd_f {a b : Pt} {s : PS} (e : a s = some false) : pAnd a b s = some false := bd_ok e rfl
theorem pAnd_t {a b : Pt} {s : PS} {r : Option Bool} (e : a s = some true) (e2 : b s = r) : pAnd a b s = r := bd_ok e e2
theorem pOr_f {a b : Pt} {s : PS} {r : Option Bool} (e : a s = some false) (e2 : b s = r) : pOr a b s = r := bd_ok e e2
theorem pOr_t {a b : Pt} {s : PS} (e : a s = some true) : pOr a b s = some true := bd_ok e rfl
theorem pIter_ok {a : Px} {s : PS} {xs : List PyData} (e : a s = some (.tuple xs) ∨ a s = some (.list xs)) : pIter a s = some xs := e.elim (fun e => bd_ok e rfl) fun e => bd_ok e rfl
end MP
/-! A law's body: code that draws, by what is wanted behind it. -/
namespace MP
open PySem MV
/-- the row of draws: cell 0 -/
def RC (ns : List Int) (i s r : Int) : Cell := .lst [.fl (ns.map .int), .d (.int i), .d (.int s), .d (.int r)]
structure Fr (h0 h : AH) : Prop where
  len : h.length = h0.length
  at_ : ∀ j : Nat, 1 ≤ j → h[j]? = h0[j]?
theorem Fr.refl (h : AH) : Fr h h := ⟨rfl, fun _ _ => rfl⟩
theorem Fr.trans {a b c : AH} (x : Fr a b) (y : Fr b c) : Fr a c := ⟨y.len.trans x.len, fun j hj => (y.at_ j hj).trans (x.at_ j hj)⟩
structure RD (ns : List Int) (h0 : AH) (s : PS) (σ : SA) (h : AH) : Prop where
  rl : Rl 1 s σ h
  fr : Fr h0 h
  row : ∃ i s' r, 0 ≤ i ∧ h[0]? = some (RC ns i s' r)
def WE (ns : List Int) (c : CE) (s : PS) (Q : PyData → Prop) : Prop := ∀ h0 σ h, RD ns h0 s σ h → ∃ x h', c σ h = some (.ok (.d x), h') ∧ RD ns h0 s σ h' ∧ Q x
def WT (ns : List Int) (c : CT) (s : PS) (Q : Bool → Prop) : Prop := ∀ h0 σ h, RD ns h0 s σ h → ∃ x h', c σ h = some (.ok x, h') ∧ RD ns h0 s σ h' ∧ Q x
def WA (ns : List Int) (c : CA) (s : PS) (Q : List PyData → Prop) : Prop := ∀ h0 σ h, RD ns h0 s σ h → ∃ x h', c σ h = some (.ok (x.map .d), h') ∧ RD ns h0 s σ h' ∧ Q x
def WS (ns : List Int) (c : CS) (s : PS) (Qn : PS → Prop) (Qr : PyData → Prop) : Prop := ∀ h0 σ h, RD ns h0 s σ h → ∃ f h', c σ h = some (f, h') ∧ match f with
  | .nx σ' => ∃ s', RD ns h' s' σ' h' ∧ Qn s'
  | .rt v => ∃ x, v = .d x ∧ Qr x
  | _ => False
variable {ns : List Int} {s : PS} {Q : PyData → Prop}
/-! ### pure code -/
theorem we_p {c : CE} {p : Px} {x : PyData} (q : QE c p) (e : p s = some x) (h : Q x) : WE ns c s Q := fun h0 σ hh D => ⟨x, hh, q.ok D.rl e, D, h⟩
theorem wt_p {c : CT} {p : Pt} {b : Bool} {Q : Bool → Prop} (q : QT c p) (e : p s = some b) (h : Q b) : WT ns c s Q := fun h0 σ hh D => ⟨b, hh, q.ok D.rl e, D, h⟩
theorem WE.imp {c : CE} {Q' : PyData → Prop} (a : WE ns c s Q') (f : ∀ x, Q' x → Q x) : WE ns c s Q := fun h0 σ h D => (fun ⟨x, h', e, D', q⟩ => ⟨x, h', e, D', f x q⟩) (a h0 σ h D)
theorem WT.imp {c : CT} {Q' Q : Bool → Prop} (a : WT ns c s Q') (f : ∀ x, Q' x → Q x) : WT ns c s Q := fun h0 σ h D => (fun ⟨x, h', e, D', q⟩ => ⟨x, h', e, D', f x q⟩) (a h0 σ h D)
theorem RD.keep {h0 h h' : AH} {σ σ' : SA} {s s' : PS} (D : RD ns h0 s σ h) (R : Rl 1 s' σ' h') (e : h'.take 1 = h.take 1) : RD ns h' s' σ' h' := by
  obtain ⟨i, s0, r, hi, e0⟩ := D.row
  refine ⟨R, Fr.refl _, i, s0, r, hi, ?_⟩
  have : (h'.take 1)[0]? = (h.take 1)[0]? := by rw [e]
  rw [List.getElem?_take_of_lt (by decide), List.getElem?_take_of_lt (by decide)] at this
  rw [this]; exact e0
theorem ws_p {c : CS} {p : PS → Option PF} {s' : PS} {Qn : PS → Prop} {Qr : PyData → Prop} (q : QS c p) (e : p s = some (.nx s')) (h : Qn s') : WS ns c s Qn Qr := fun h0 σ hh D => by
  obtain ⟨f, h', z1, z2⟩ := q.ok D.rl e
  refine ⟨f, h', z1, ?_⟩
  cases f with
  | nx σ' => exact ⟨s', D.keep z2.1 z2.2, h⟩
  | _ => exact z2.elim
theorem ws_pr {c : CS} {p : PS → Option PF} {x : PyData} {Qn : PS → Prop} {Qr : PyData → Prop} (q : QS c p) (e : p s = some (.rt x)) (h : Qr x) : WS ns c s Qn Qr := fun h0 σ hh D => by
  obtain ⟨f, h', z1, z2⟩ := q.ok D.rl e
  refine ⟨f, h', z1, ?_⟩
  cases f with
  | rt v => exact ⟨x, z2.1, h⟩
  | _ => exact z2.elim
/-! ### expressions -/
variable {a b : CE}
theorem we_op {f : PyData → PyData → Option PyData} (h : WE ns a s fun x => WE ns b s fun y => ∃ z, f x y = some z ∧ Q z) : WE ns (cOp (gD f) a b) s Q := fun h0 σ hh D => by
  obtain ⟨x, h1, e1, D1, q1⟩ := h h0 σ hh D
  obtain ⟨y, h2, e2, D2, z, e3, q⟩ := q1 h0 σ h1 D1
  exact ⟨z, h2, opd_ok e1 e2 e3, D2, q⟩
theorem we_opM {f : PyData → PyData → Option PyData} (h : WE ns a s fun x => WE ns b s fun y => ∃ z, f x y = some z ∧ Q z) : WE ns (cOp (gDM f) a b) s Q := fun h0 σ hh D => by
  obtain ⟨x, h1, e1, D1, q1⟩ := h h0 σ hh D
  obtain ⟨y, h2, e2, D2, z, e3, q⟩ := q1 h0 σ h1 D1
  exact ⟨z, h2, opm_ok e1 e2 e3, D2, q⟩
theorem we_ix (h : WE ns a s fun x => WE ns b s fun y => ∃ z, dIx x y = some z ∧ Q z) : WE ns (cOp gIx a b) s Q := fun h0 σ hh D => by
  obtain ⟨x, h1, e1, D1, q1⟩ := h h0 σ hh D
  obtain ⟨y, h2, e2, D2, z, e3, q⟩ := q1 h0 σ h1 D1
  refine ⟨z, h2, op_ok e1 e2 ?_, D2, q⟩
  unfold dIx at e3
  split at e3
  · unfold gIx; simp only [asI, e3, Option.map_some]
  · unfold gIx; simp only [asI, e3, Option.map_some]
  · cases e3
theorem wa_nil {Q : List PyData → Prop} (h : Q []) : WA ns cNil s Q := fun h0 σ hh D => ⟨[], hh, rfl, D, h⟩
theorem wa_cons {r : CA} {Q : List PyData → Prop} (h : WE ns a s fun x => WA ns r s fun xs => Q (x :: xs)) : WA ns (cCons a r) s Q := fun h0 σ hh D => by
  obtain ⟨x, h1, e1, D1, q1⟩ := h h0 σ hh D
  obtain ⟨y, h2, e2, D2, q⟩ := q1 h0 σ h1 D1
  exact ⟨x :: y, h2, cons_ok e1 e2, D2, q⟩
theorem wa_p {c : CA} {p : Pa} {x : List PyData} {Q : List PyData → Prop} (q : QA c p) (e : p s = some x) (h : Q x) : WA ns c s Q := fun h0 σ hh D => ⟨x, hh, q.ok D.rl e, D, h⟩
theorem we_tup {r : CA} (h : WA ns r s fun xs => xs.length ≤ sizeLine ∧ Q (.tuple xs)) : WE ns (cAp gTup r) s Q := fun h0 σ hh D => by
  obtain ⟨x, h1, e1, D1, l, q⟩ := h h0 σ hh D
  refine ⟨_, h1, ap_ok e1 ?_, D1, q⟩
  unfold gTup
  rw [allD_d]
  simp only
  rw [if_pos l]
theorem we_lst {r : CA} (h : WA ns r s fun xs => xs.length ≤ sizeLine ∧ Q (.list xs)) : WE ns (cAp gLst r) s Q := fun h0 σ hh D => by
  obtain ⟨x, h1, e1, D1, l, q⟩ := h h0 σ hh D
  refine ⟨_, h1, ap_ok e1 ?_, D1, q⟩
  unfold gLst
  rw [allD_d]
  simp only
  rw [if_pos l]
theorem we_ap1 {f : PyData → Option PyData} (h : WE ns a s fun x => ∃ z, f x = some z ∧ Q z) : WE ns (cAp (g1 f) (cCons a cNil)) s Q := fun h0 σ hh D => by
  obtain ⟨x, h1, e1, D1, z, e2, q⟩ := h h0 σ hh D
  exact ⟨z, h1, ap1_ok e1 e2, D1, q⟩
theorem we_ap2 {f : PyData → PyData → Option PyData} (h : WE ns a s fun x => WE ns b s fun y => ∃ z, f x y = some z ∧ Q z) : WE ns (cAp (g2 f) (cCons a (cCons b cNil))) s Q := fun h0 σ hh D => by
  obtain ⟨x, h1, e1, D1, q1⟩ := h h0 σ hh D
  obtain ⟨y, h2, e2, D2, z, e3, q⟩ := q1 h0 σ h1 D1
  refine ⟨z, h2, ap_ok (cons_ok e1 (one_ok e2)) ?_, D2, q⟩
  unfold g2
  simp only [viewD, e3, Option.map_some]
theorem we_call {n : Nat} {cf : List Val → M Val} {pf : List PyData → Option PyData} {r : CA} (hf : QD cf pf) (h : WA ns r s fun xs => xs.length = n ∧ ∃ z, pf xs = some z ∧ Q z) : WE ns (cCall n cf r) s Q := fun h0 σ hh D => by
  obtain ⟨x, h1, e1, D1, l, z, e2, q⟩ := h h0 σ hh D
  exact ⟨z, h1, call_ok e1 (by rw [List.length_map]; exact l) (hf.ok D1.rl.cl e2), D1, q⟩
theorem we_ifE {t : CT} (h : WT ns t s fun k => if k = true then WE ns a s Q else WE ns b s Q) : WE ns (cIfE t a b) s Q := fun h0 σ hh D => by
  obtain ⟨k, h1, e1, D1, q⟩ := h h0 σ hh D
  unfold cIfE
  rw [bnd_ok e1]
  cases k with
  | true => rw [if_pos rfl] at q ⊢; exact q h0 σ h1 D1
  | false => rw [if_neg Bool.false_ne_true] at q ⊢; exact q h0 σ h1 D1
theorem wt_test {Q : Bool → Prop} (h : WE ns a s fun x => ∃ k, x = .bool k ∧ Q k) : WT ns (cTest a) s Q := fun h0 σ hh D => by
  obtain ⟨x, h1, e1, D1, k, rfl, q⟩ := h h0 σ hh D
  exact ⟨k, h1, test_ok e1, D1, q⟩
theorem wt_tru {Q : Bool → Prop} (h : WE ns a s fun x => ∃ k, truD x = some k ∧ Q k) : WT ns (cTru a) s Q := fun h0 σ hh D => by
  obtain ⟨x, h1, e1, D1, k, e2, q⟩ := h h0 σ hh D
  exact ⟨k, h1, tru_ok' e1 e2, D1, q⟩
theorem wt_not {t : CT} {Q : Bool → Prop} (h : WT ns t s fun k => Q (!k)) : WT ns (cNot t) s Q := fun h0 σ hh D => by
  obtain ⟨x, h1, e1, D1, q⟩ := h h0 σ hh D
  exact ⟨_, h1, not_ok e1, D1, q⟩
theorem wt_or {t u : CT} {Q : Bool → Prop} (h : WT ns t s fun k => if k = true then Q true else WT ns u s Q) : WT ns (cOr t u) s Q := fun h0 σ hh D => by
  obtain ⟨k, h1, e1, D1, q⟩ := h h0 σ hh D
  unfold cOr
  rw [bnd_ok e1]
  cases k with
  | true => rw [if_pos rfl] at q ⊢; exact ⟨true, h1, rfl, D1, q⟩
  | false => rw [if_neg Bool.false_ne_true] at q ⊢; exact q h0 σ h1 D1
theorem wt_and {t u : CT} {Q : Bool → Prop} (h : WT ns t s fun k => if k = true then WT ns u s Q else Q false) : WT ns (cAnd t u) s Q := fun h0 σ hh D => by
  obtain ⟨k, h1, e1, D1, q⟩ := h h0 σ hh D
  unfold cAnd
  rw [bnd_ok e1]
  cases k with
  | true => rw [if_pos rfl] at q ⊢; exact q h0 σ h1 D1
  | false => rw [if_neg Bool.false_ne_true] at q ⊢; exact ⟨false, h1, rfl, D1, q⟩
theorem wt_yes {Q : Bool → Prop} (h : Q true) : WT ns cYes s Q := fun h0 σ hh D => ⟨true, hh, rfl, D, h⟩
/-! ### a comprehension whose parts draw -/
theorem RD.base {h0 h1 h : AH} {σ : SA} (D : RD ns h0 s σ h) (f : Fr h1 h0) : RD ns h1 s σ h := ⟨D.rl, f.trans D.fr, D.row⟩
theorem RD.self {h0 h : AH} {σ : SA} (D : RD ns h0 s σ h) : RD ns h s σ h := ⟨D.rl, Fr.refl _, D.row⟩
theorem RD.to {h0 h : AH} {σ σ' : SA} {s' : PS} (D : RD ns h0 s σ h) (R : Rl 1 s' σ' h) : RD ns h0 s' σ' h := ⟨R, D.fr, D.row⟩
theorem split_end {h0 h : AH} {x : Cell} (f : Fr (h0 ++ [x]) h) (h1 : 1 ≤ h0.length) : ∃ h2, h = h2 ++ [x] ∧ Fr h0 h2 := by
  have hl : h.length = h0.length + 1 := by rw [f.len, List.length_append, List.length_singleton]
  have e : h[h0.length]? = some x := by rw [f.at_ _ h1]; simp
  refine ⟨h.take h0.length, ?_, ⟨by rw [List.length_take]; omega, fun j hj => ?_⟩⟩
  · have : h = h.take h0.length ++ h.drop h0.length := (List.take_append_drop _ _).symm
    rw [this]
    congr 1
    · rw [← this]
    · rw [List.drop_eq_getElem_cons (by omega), List.drop_of_length_le (by omega)]
      rw [List.getElem?_eq_getElem (by omega)] at e
      injection e with e
      rw [e]
  · rcases Nat.lt_or_ge j h0.length with q | q
    · rw [List.getElem?_take_of_lt q, f.at_ j hj, List.getElem?_append_left q]
    · rw [List.getElem?_eq_none (by rw [List.length_take]; omega), List.getElem?_eq_none q]
theorem RD.push {h0 h : AH} {σ : SA} (D : RD ns h0 s σ h) (ds : List PyData) : RD ns (h ++ [.lst (ds.map .d)]) s σ (h ++ [.lst (ds.map .d)]) := by
  obtain ⟨i, s', r, hi, e⟩ := D.row
  refine ⟨D.rl.pushD ds, Fr.refl _, i, s', r, hi, ?_⟩
  rw [List.getElem?_append_left D.rl.nh]
  exact e
abbrev RowAt (ns : List Int) (h : AH) : Prop := ∃ i s' r, 0 ≤ i ∧ h[0]? = some (RC ns i s' r)
/-- only the row has changed -/
theorem RD.move {h0 h h' : AH} {σ : SA} (D : RD ns h0 s σ h) (f : Fr h h') (r0 : RowAt ns h') : RD ns h0 s σ h' := by
  have c : Cl h' := by
    unfold Cl
    rw [List.all_eq_true]
    intro x hx
    obtain ⟨j, e⟩ := List.mem_iff_getElem?.mp hx
    rcases Nat.eq_zero_or_pos j with rfl | hj
    · obtain ⟨i, s', r, _, q⟩ := r0
      rw [q] at e
      cases e
      rfl
    · have ex := e
      rw [f.at_ j hj] at ex
      have := D.rl.cl
      unfold Cl at this
      rw [List.all_eq_true] at this
      rw [f.len]
      exact this x (List.mem_iff_getElem?.mpr ⟨j, ex⟩)
  refine ⟨⟨c, by rw [f.len]; exact D.rl.nh, fun i v e => ?_, D.rl.inj⟩, D.fr.trans f, r0⟩
  obtain ⟨o, e1, q⟩ := D.rl.at_ i v e
  exact ⟨o, e1, q.move fun l x hn _ _ hl => (f.at_ l hn).trans hl⟩
theorem row_end {h : AH} {x : Cell} (r : RowAt ns (h ++ [x])) (h1 : 1 ≤ h.length) : RowAt ns h := by
  obtain ⟨i, s', q, hi, e⟩ := r
  rw [List.getElem?_append_left h1] at e
  exact ⟨i, s', q, hi, e⟩
theorem lc_w {g : CG} {pg : Pg} {t : CT} {xs : List PyData} {s1 : PS} (J : Nat → List PyData → Prop) (hg : QG g pg)
    (hs : ∀ k x acc, xs[k]? = some x → J k acc → ∃ u, pg x = some u ∧ WT ns t (setP s1 u) fun y => if y = true then WE ns a (setP s1 u) fun v => J (k + 1) (acc ++ [v]) else J (k + 1) acc) {L : Nat} :
    ∀ (zs : List PyData) (k : Nat) (acc : List PyData) (σ : SA) (h : AH), xs.drop k = zs → k ≤ xs.length → J k acc → acc.length + zs.length < sizeLine → L = h.length → RD ns h s1 σ h →
      ∃ h' ys, lcL g t a L σ (zs.map .d) (h ++ [.lst (acc.map .d)]) = some (h' ++ [.lst (ys.map .d)]) ∧ Fr h h' ∧ J xs.length ys ∧ RowAt ns h' := by
  intro zs
  induction zs with
  | nil =>
    intro k acc σ h e hk j hz hL D
    have : k = xs.length := Nat.le_antisymm hk (List.drop_eq_nil_iff.mp e)
    subst this
    exact ⟨h, acc, rfl, Fr.refl _, j, D.row⟩
  | cons x zs ih =>
    intro k acc σ h e hk j hz hL D
    have ex : xs[k]? = some x := by
      have := List.getElem?_drop (xs := xs) (i := k) (j := 0)
      rw [e] at this
      simpa using this.symm
    have hk' : k + 1 ≤ xs.length := (List.getElem?_eq_some_iff.mp ex).1
    obtain ⟨u, e1, w⟩ := hs k x acc ex j
    have DP := D.push acc
    have D1 : RD ns (h ++ [.lst (acc.map .d)]) (setP s1 u) (MV.setAll σ (upsV u)) (h ++ [.lst (acc.map .d)]) := DP.to (DP.rl.setAll (u := u))
    obtain ⟨y, h1, e2, D2, q⟩ := w _ _ _ D1
    have ed : xs.drop (k + 1) = zs := by
      rw [← List.drop_drop, e]
      rfl
    rw [List.map_cons]
    rw [List.length_cons] at hz
    unfold lcL
    rw [hg.ok e1]
    dsimp only
    rw [e2]
    have h1l : 1 ≤ h.length := D.rl.nh
    cases y with
    | false =>
      rw [if_neg Bool.false_ne_true] at q
      dsimp only
      obtain ⟨h2, rfl, f2⟩ := split_end D2.fr h1l
      have r2 : RowAt ns h2 := row_end D2.row (by rw [f2.len]; exact h1l)
      obtain ⟨h', ys, z1, z2, z3, z4⟩ := ih (k + 1) acc σ h2 ed hk' q (by omega) (by rw [hL, f2.len]) (D.move f2 r2).self
      exact ⟨h', ys, z1, f2.trans z2, z3, z4⟩
    | true =>
      rw [if_pos rfl] at q
      obtain ⟨v, h3, e3, D3, q⟩ := q _ _ _ D2
      dsimp only
      rw [e3]
      dsimp only
      obtain ⟨h2, rfl, f2⟩ := split_end D3.fr h1l
      have r2 : RowAt ns h2 := row_end D3.row (by rw [f2.len]; exact h1l)
      have hL2 : L = h2.length := by rw [hL, f2.len]
      have e5 : (h2 ++ [Cell.lst (acc.map .d)])[L]? = some (.lst (acc.map .d)) := by rw [hL2]; simp
      rw [e5]
      dsimp only
      rw [if_pos (by rw [List.length_map]; omega)]
      have e6 : (h2 ++ [Cell.lst (acc.map .d)]).set L (.lst (acc.map .d ++ [.d v])) = h2 ++ [.lst ((acc ++ [v]).map .d)] := by
        rw [hL2, List.set_append_right _ _ (Nat.le_refl _), Nat.sub_self]
        simp
      rw [e6]
      obtain ⟨h', ys, z1, z2, z3, z4⟩ := ih (k + 1) (acc ++ [v]) σ h2 ed hk' q (by rw [List.length_append, List.length_singleton]; omega) hL2 (D.move f2 r2).self
      exact ⟨h', ys, z1, f2.trans z2, z3, z4⟩
theorem we_lc {ci : CI} {own : List Nat} {g : CG} {pg : Pg} {t : CT} {xs : List PyData} {pi : Pa} (J : Nat → List PyData → Prop) (hi : QI ci pi) (hx : pi s = some xs) (hz : xs.length < sizeLine) (hg : QG g pg) (h0 : J 0 [])
    (hs : ∀ k x acc, xs[k]? = some x → J k acc → ∃ u, pg x = some u ∧ WT ns t (setP (wipeP s own) u) fun y => if y = true then WE ns a (setP (wipeP s own) u) fun v => J (k + 1) (acc ++ [v]) else J (k + 1) acc)
    (hQ : ∀ ys, J xs.length ys → Q (.list ys)) : WE ns (cLc ci own g t a) s Q := fun h0' σ h D => by
  have Dw : RD ns h (wipeP s own) (wipeA σ own) h := D.self.to (D.rl.wipe own)
  obtain ⟨h', ys, z1, z2, z3, z4⟩ := lc_w J hg hs xs 0 [] (wipeA σ own) h rfl (Nat.zero_le _) h0 (by rw [List.length_nil]; omega) rfl Dw
  have D' := D.move z2 z4
  refine ⟨.list ys, h', ?_, D', hQ ys z3⟩
  unfold cLc
  rw [bnd_ok (hi.ok D.rl hx), lift_ap]
  rw [List.map_nil] at z1
  rw [z1]
  simp only [Option.bind_some]
  rw [← z2.len, lcEnd_ok D'.rl.cl]
/-! ### statements -/
variable {Qn : PS → Prop} {Qr : PyData → Prop}
theorem ws_seq {c d : CS} (h : WS ns c s (fun s' => WS ns d s' Qn Qr) Qr) : WS ns (sSeq c d) s Qn Qr := fun h0 σ hh D => by
  obtain ⟨f, h1, e1, q⟩ := h h0 σ hh D
  cases f with
  | nx σ1 =>
    obtain ⟨s1, D1, w⟩ := q
    obtain ⟨f2, h2, e2, q2⟩ := w _ _ _ D1
    exact ⟨f2, h2, seq_nx e1 e2, q2⟩
  | rt v => exact ⟨_, h1, seq_rt e1, q⟩
  | _ => exact q.elim
theorem ws_asg {g : CG} {pg : Pg} (hg : QG g pg) (h : WE ns a s fun x => ∃ u, pg x = some u ∧ Qn (setP s u)) : WS ns (sAsg g a) s Qn Qr := fun h0 σ hh D => by
  obtain ⟨x, h1, e1, D1, u, e2, q⟩ := h h0 σ hh D
  exact ⟨_, h1, asg_ok e1 (hg.ok e2 h1), _, (D1.self.to D1.rl.setAll), q⟩
theorem ws_asgn {i : Nat} (h : WE ns a s fun x => Qn (s.set i (.d x))) : WS ns (sAsg (gN i) a) s Qn Qr := ws_asg (qN i) (h.imp fun x q => ⟨_, rfl, q⟩)
theorem ws_tup {gs : List CG} {ps : List Pg} {r : CA} (hg : QGs gs ps) (h : WA ns r s fun xs => xs.length ≤ sizeLine ∧ ∃ u, tAll ps xs = some u ∧ Qn (setP s u)) : WS ns (sTup gs r) s Qn Qr := fun h0 σ hh D => by
  obtain ⟨x, h1, e1, D1, l, u, e2, q⟩ := h h0 σ hh D
  refine ⟨.nx (MV.setAll σ (upsV u)), h1, ?_, _, (D1.self.to D1.rl.setAll), q⟩
  unfold sTup sByA
  rw [e1]
  simp only
  rw [if_pos (by rw [List.length_map]; exact l), hg.ok e2 h1]
theorem ws_if {t : CT} {c d : CS} (h : WT ns t s fun k => if k = true then WS ns c s Qn Qr else WS ns d s Qn Qr) : WS ns (sIf t c d) s Qn Qr := fun h0 σ hh D => by
  obtain ⟨k, h1, e1, D1, q⟩ := h h0 σ hh D
  cases k with
  | true => rw [if_pos rfl] at q; obtain ⟨f, h2, e2, q2⟩ := q _ _ _ D1; exact ⟨f, h2, if_t e1 e2, q2⟩
  | false => rw [if_neg Bool.false_ne_true] at q; obtain ⟨f, h2, e2, q2⟩ := q _ _ _ D1; exact ⟨f, h2, if_f e1 e2, q2⟩
theorem ws_nil (h : Qn s) : WS ns sNil s Qn Qr := fun h0 σ hh D => ⟨_, hh, rfl, s, D.self, h⟩
theorem ws_ret (h : WE ns a s Qr) : WS ns (sRet a) s Qn Qr := fun h0 σ hh D => by
  obtain ⟨x, h1, e1, D1, q⟩ := h h0 σ hh D
  exact ⟨_, h1, ret_ok e1, x, rfl, q⟩
theorem ws_drop (h : WE ns a s fun _ => Qn s) : WS ns (sDrop a) s Qn Qr := fun h0 σ hh D => by
  obtain ⟨x, h1, e1, D1, q⟩ := h h0 σ hh D
  exact ⟨_, h1, drop_ok e1, s, D1.self, q⟩
/-- a loop, by an invariant -/
theorem loop_w {g : CG} {pg : Pg} {c : CS} {xs : List PyData} (J : Nat → PS → Prop) (hg : QG g pg)
    (hs : ∀ k x s, xs[k]? = some x → J k s → ∃ u, pg x = some u ∧ WS ns c (setP s u) (J (k + 1)) Qr) :
    ∀ (zs : List PyData) (k : Nat) (s : PS) (h0 : AH) (σ : SA) (h : AH), xs.drop k = zs → k ≤ xs.length → J k s → RD ns h0 s σ h →
      ∃ f h', sLoop g c (zs.map .d) σ h = some (f, h') ∧ match f with
        | .nx σ' => ∃ s', RD ns h' s' σ' h' ∧ J xs.length s'
        | .rt v => ∃ x, v = .d x ∧ Qr x
        | _ => False := by
  intro zs
  induction zs with
  | nil =>
    intro k s h0 σ h e hk j D
    have : k = xs.length := Nat.le_antisymm hk (List.drop_eq_nil_iff.mp e)
    subst this
    exact ⟨_, h, rfl, s, D.self, j⟩
  | cons x zs ih =>
    intro k s h0 σ h e hk j D
    have ex : xs[k]? = some x := by
      have := List.getElem?_drop (xs := xs) (i := k) (j := 0)
      rw [e] at this
      simpa using this.symm
    have hk' : k + 1 ≤ xs.length := (List.getElem?_eq_some_iff.mp ex).1
    have ed : xs.drop (k + 1) = zs := by
      rw [← List.drop_drop, e]
      rfl
    obtain ⟨u, e1, w⟩ := hs k x s ex j
    obtain ⟨f, h1, e2, q⟩ := w h0 _ _ (D.to (D.rl.setAll (u := u)))
    rw [List.map_cons]
    cases f with
    | nx σ1 =>
      obtain ⟨s1, D1, j1⟩ := q
      obtain ⟨f2, h2, z1, z2⟩ := ih (k + 1) s1 _ σ1 h1 ed hk' j1 D1
      exact ⟨f2, h2, (sLoop_nx (hg.ok e1 h) e2).trans z1, z2⟩
    | rt v => exact ⟨_, h1, sLoop_rt (hg.ok e1 h) e2, q⟩
    | _ => exact q.elim
theorem ws_for {ci : CI} {pi : Pa} {g : CG} {pg : Pg} {c : CS} {xs : List PyData} (J : Nat → PS → Prop) (hi : QI ci pi) (hx : pi s = some xs) (hg : QG g pg) (j0 : J 0 s)
    (hs : ∀ k x s, xs[k]? = some x → J k s → ∃ u, pg x = some u ∧ WS ns c (setP s u) (J (k + 1)) Qr) (hQ : ∀ s', J xs.length s' → Qn s') : WS ns (sFor ci g c) s Qn Qr := fun h0 σ h D => by
  obtain ⟨f, h', e, q⟩ := loop_w J hg hs xs 0 s h0 σ h rfl (Nat.zero_le _) j0 D
  refine ⟨f, h', (for_ok (hi.ok D.rl hx)).trans e, ?_⟩
  cases f with
  | nx σ' => obtain ⟨s', D', j⟩ := q; exact ⟨s', D', hQ s' j⟩
  | rt v => exact q
  | _ => exact q.elim
/-- draws: the row stands in slot b -/
structure Draw (ns : List Int) (cf : List Val → M Val) : Prop where
  ok : ∀ {i s r many : Int} {rest : AH}, 0 ≤ i → 1 ≤ many → many < 1000000 → ∃ i' s' r' v, cf [.ref 0, .d (.int many)] (RC ns i s r :: rest) = some (.ok (.d (.int v)), RC ns i' s' r' :: rest) ∧ 0 ≤ i' ∧ 0 ≤ v ∧ v < many
theorem head_row {h : AH} {i s' r : Int} (e : h[0]? = some (RC ns i s' r)) : h = RC ns i s' r :: h.tail := by
  cases h with
  | nil => cases e
  | cons c t => cases e; rfl
theorem fr_cons {x y : Cell} {t : AH} : Fr (x :: t) (y :: t) := ⟨rfl, fun j hj => by
  obtain ⟨k, rfl⟩ : ∃ k, j = k + 1 := ⟨j - 1, by omega⟩
  rfl⟩
theorem we_draw {cf : List Val → M Val} {b : Nat} {e : CE} (d : Draw ns cf) (hb : s[b]? = some (.o (.ref 0))) (h : WE ns e s fun x => ∃ many : Int, x = .int many ∧ 1 ≤ many ∧ many < 1000000 ∧ ∀ v : Int, 0 ≤ v → v < many → Q (.int v)) : WE ns (cCall 2 cf (cCons (cVar b) (cCons e cNil))) s Q := fun h0 σ hh D => by
  obtain ⟨x, h1, e1, D1, many, rfl, m1, m2, q⟩ := h h0 σ hh D
  obtain ⟨i, s', r, hi, er⟩ := D1.row
  obtain ⟨i', s2, r', v, e2, a1, a2, a3⟩ := d.ok (rest := h1.tail) (s := s') (r := r) hi m1 m2
  have eh := head_row er
  rw [← eh] at e2
  have f : Fr h1 (RC ns i' s2 r' :: h1.tail) := by
    have := fr_cons (x := RC ns i s' r) (y := RC ns i' s2 r') (t := h1.tail)
    rw [← eh] at this
    exact this
  obtain ⟨o, eo, ho⟩ := D.rl.at_ b _ hb
  have ho : o = some (.ref 0) := ho
  subst ho
  exact ⟨.int v, _, call_ok (cons_ok (var_ok eo) (one_ok e1)) rfl e2, D1.move f ⟨i', s2, r', a1, rfl⟩, q v a2 a3⟩
/-- a def that draws from the row and gives data of a kind -/
structure Gives (ns : List Int) (cf : List Val → M Val) (as : List PyData) (P : PyData → Prop) : Prop where
  ok : ∀ {i s r : Int} {rest : AH}, 0 ≤ i → Cl (RC ns i s r :: rest) → ∃ i' s' r' v, cf (.ref 0 :: as.map .d) (RC ns i s r :: rest) = some (.ok (.d v), RC ns i' s' r' :: rest) ∧ 0 ≤ i' ∧ P v
theorem we_gives {cf : List Val → M Val} {b n : Nat} {r : CA} (hb : s[b]? = some (.o (.ref 0))) (h : WA ns r s fun xs => xs.length + 1 = n ∧ ∃ P, Gives ns cf xs P ∧ ∀ v, P v → Q v) : WE ns (cCall n cf (cCons (cVar b) r)) s Q := fun h0 σ hh D => by
  obtain ⟨xs, h1, e1, D1, hn, P, g, q⟩ := h h0 σ hh D
  obtain ⟨i, s', r, hi, er⟩ := D1.row
  have eh := head_row er
  have cl := D1.rl.cl
  rw [eh] at cl
  obtain ⟨i', s2, r', v, e2, a1, a2⟩ := g.ok (rest := h1.tail) (s := s') (r := r) hi cl
  rw [← eh] at e2
  have f : Fr h1 (RC ns i' s2 r' :: h1.tail) := by
    have := fr_cons (x := RC ns i s' r) (y := RC ns i' s2 r') (t := h1.tail)
    rw [← eh] at this
    exact this
  obtain ⟨o, eo, ho⟩ := D.rl.at_ b _ hb
  have ho : o = some (.ref 0) := ho
  subst ho
  exact ⟨v, _, call_ok (cons_ok (var_ok eo) e1) (by rw [List.length_cons, List.length_map]; exact hn) e2, D1.move f ⟨i', s2, r', a1, rfl⟩, q v a2⟩
/-- the whole law: its first statement makes the row -/
theorem law_end {n : Nat} {c : CS} {seed : Int} (hn : 2 ≤ n) (h : WS ns c ((.o (.fl (ns.map .int)) : PV) :: .o (.ref 0) :: List.replicate (n - 2) .u) (fun _ => False) (fun x => x = .bool true)) :
    ∃ h', cDef n (sSeq (sAsg (gN 1) (cAp gNewL (cCons (cVar 0) (cCons (cK (.int 0)) (cCons (cK (.int seed)) (cCons (cK (.int 0)) (cNil))))))) c) [.fl (ns.map .int)] [] = some (.ok (.d (.bool true)), h') := by
  have z1 : sAsg (gN 1) (cAp gNewL (cCons (cVar 0) (cCons (cK (.int 0)) (cCons (cK (.int seed)) (cCons (cK (.int 0)) (cNil)))))) (([Val.fl (ns.map .int)]).map some ++ List.replicate (n - 1) none) [] = some (.nx ((([Val.fl (ns.map .int)]).map some ++ List.replicate (n - 1) none).set 1 (some (.ref 0))), [RC ns 0 seed 0]) := by
    refine asg_n (ap_ok (cons_ok (var_ok rfl) (cons_ok k_ok (cons_ok k_ok (one_ok k_ok)))) ?_)
    show (if 4 ≤ sizeLine then some (Val.ref 0, [RC ns 0 seed 0]) else none) = _
    rw [if_pos (by unfold sizeLine; decide)]
  have es : (([Val.fl (ns.map .int)]).map some ++ List.replicate (n - 1) none).set 1 (some (.ref 0)) = some (Val.fl (ns.map .int)) :: some (.ref 0) :: List.replicate (n - 2) none := by
    obtain ⟨m, rfl⟩ : ∃ m, n = m + 2 := ⟨n - 2, by omega⟩
    rfl
  rw [es] at z1
  have R0 : RD ns [RC ns 0 seed 0] ((.o (.fl (ns.map .int)) : PV) :: .o (.ref 0) :: List.replicate (n - 2) .u) (some (Val.fl (ns.map .int)) :: some (.ref 0) :: List.replicate (n - 2) none) [RC ns 0 seed 0] := by
    refine ⟨⟨rfl, Nat.le_refl _, fun i v e => ?_, fun i j v w l e1 n1 _ _ _ _ => ?_⟩, Fr.refl _, 0, seed, 0, Int.le_refl _, rfl⟩
    · match i with
      | 0 => cases e; exact ⟨_, rfl, rfl⟩
      | 1 => cases e; exact ⟨_, rfl, rfl⟩
      | i + 2 =>
        have e : (List.replicate (n - 2) PV.u)[i]? = some v := e
        obtain ⟨hl, e⟩ := List.getElem?_eq_some_iff.mp e
        rw [List.getElem_replicate] at e
        cases e
        rw [List.length_replicate] at hl
        exact ⟨none, by show (List.replicate (n - 2) (none : Option Val))[i]? = _; simp [hl], trivial⟩
    · match i with
      | 0 => cases e1; exact absurd rfl n1
      | 1 => cases e1; exact absurd rfl n1
      | i + 2 =>
        have e : (List.replicate (n - 2) PV.u)[i]? = some v := e1
        obtain ⟨hl, e⟩ := List.getElem?_eq_some_iff.mp e
        rw [List.getElem_replicate] at e
        cases e
        exact absurd rfl n1
  obtain ⟨f, h', e, q⟩ := h _ _ _ R0
  cases f with
  | nx σ' => obtain ⟨_, _, z⟩ := q; exact z.elim
  | rt v =>
    obtain ⟨x, rfl, rfl⟩ := q
    exact ⟨_, cDef_rt (seq_nx z1 e)⟩
  | _ => exact q.elim
end MP
/-! own dicts with tuple keys, in pure code -/
namespace MP
open PySem MV
abbrev KV := List (List L2.Key × PyData)
def valP (kvs : KV) (k : List L2.Key) : Option PyData := (kvs.find? fun kv => decide (kv.1 = k)).map (·.2)
def putP (kvs : KV) (k : List L2.Key) (x : PyData) : KV := if (kvs.any fun kv => decide (kv.1 = k)) = true then kvs.map (fun kv => if kv.1 = k then (kv.1, x) else kv) else kvs ++ [(k, x)]
theorem valA_kv (kvs : KV) (k : List L2.Key) : valA (kvV kvs) k = (valP kvs k).map .d := by
  unfold valA valP kvV
  rw [List.find?_map, Option.map_map, Option.map_map]
  rfl
theorem putA_kv (kvs : KV) (k : List L2.Key) (x : PyData) : putA (kvV kvs) k (.d x) = kvV (putP kvs k x) := by
  unfold putA putP kvV
  have ea : ((kvs.map fun p => (p.1, Val.d p.2)).any fun kv => decide (kv.1 = k)) = (kvs.any fun kv => decide (kv.1 = k)) := by rw [List.any_map]; rfl
  rw [ea]
  by_cases h : (kvs.any fun kv => decide (kv.1 = k)) = true
  · rw [if_pos h, if_pos h, List.map_map, List.map_map]
    refine List.map_congr_left fun p _ => ?_
    show (if p.1 = k then (p.1, Val.d x) else (p.1, .d p.2)) = ((if p.1 = k then (p.1, x) else p).1, Val.d (if p.1 = k then (p.1, x) else p).2)
    split <;> rfl
  · rw [if_neg h, if_neg h, List.map_append]
    rfl
def dKey : PyData → Option (List L2.Key)
  | .tuple ds => keysOf ds
  | _ => none
theorem kyT_d {x : PyData} {k : List L2.Key} (e : dKey x = some k) : kyT (.d x) = some k := by
  cases x <;> first | exact e | cases e
def ownT (s : PS) (v : Nat) : Option KV := match s[v]? with
  | some (.t kvs) => some kvs
  | _ => none
theorem ownT_some {s : PS} {v : Nat} {kvs : KV} (e : ownT s v = some kvs) : s[v]? = some (.t kvs) := by
  unfold ownT at e
  split at e
  · rename_i h; cases e; exact h
  · cases e
theorem Rl.dict {n : Nat} {s : PS} {σ : SA} {h : AH} {v : Nat} {kvs : KV} (R : Rl n s σ h) (e : ownT s v = some kvs) : ∃ l, σ[v]? = some (some (.ref l)) ∧ n ≤ l ∧ h[l]? = some (.dT (kvV kvs)) := R.ownC (ownT_some e) rfl
section
variable {e co : CE} {pe : Px}
theorem getD_own {h : AH} {l : Nat} {kvs : KV} {x : PyData} {k : List L2.Key} (hl : h[l]? = some (.dT (kvV kvs))) (hk : dKey x = some k) : getD? (.ref l) (.d x) h = some ((valP kvs k).map .d) := by
  unfold getD?
  simp only [hl, kyT_d hk, Option.map_some, valA_kv]
def pDGet (v : Nat) (e : Px) : Px := fun s => bd (ownT s v) fun kvs => bd (e s) fun x => bd (dKey x) fun k => valP kvs k
theorem qDGet {v : Nat} (he : QE e pe) : QE (cOp gDGet (cVar v) e) (pDGet v pe) := ⟨fun R q => by
  obtain ⟨kvs, e1, q⟩ := bd_some q
  obtain ⟨x, e2, q⟩ := bd_some q
  obtain ⟨k, e3, q⟩ := bd_some q
  obtain ⟨l, a, _, c⟩ := R.dict e1
  refine op_ok (var_ok a) (he.ok R e2) ?_
  unfold gDGet
  rw [getD_own c e3, q]
  rfl⟩
def pDIn (neg : Bool) (v : Nat) (e : Px) : Px := fun s => bd (e s) fun x => bd (ownT s v) fun kvs => bd (dKey x) fun k => some (.bool (if neg = true then !(valP kvs k).isSome else (valP kvs k).isSome))
theorem qDIn {v : Nat} (he : QE e pe) : QE (cOp gDIn e (cVar v)) (pDIn false v pe) := ⟨fun R q => by
  obtain ⟨x, e2, q⟩ := bd_some q
  obtain ⟨kvs, e1, q⟩ := bd_some q
  obtain ⟨k, e3, q⟩ := bd_some q
  cases q
  obtain ⟨l, a, _, c⟩ := R.dict e1
  refine op_ok (he.ok R e2) (var_ok a) ?_
  unfold gDIn
  rw [getD_own c e3]
  simp only [Option.map_some, Option.isSome_map, if_neg Bool.false_ne_true]⟩
theorem qDNotIn {v : Nat} (he : QE e pe) : QE (cOp gDNotIn e (cVar v)) (pDIn true v pe) := ⟨fun R q => by
  obtain ⟨x, e2, q⟩ := bd_some q
  obtain ⟨kvs, e1, q⟩ := bd_some q
  obtain ⟨k, e3, q⟩ := bd_some q
  cases q
  obtain ⟨l, a, _, c⟩ := R.dict e1
  refine op_ok (he.ok R e2) (var_ok a) ?_
  unfold gDNotIn
  rw [getD_own c e3]
  simp only [Option.map_some, Option.isSome_map, if_pos]⟩
def valsP : KV → Option (List Int)
  | [] => some []
  | (_, .int i) :: r => (valsP r).map (i :: ·)
  | _ => none
theorem valsI_kv : ∀ {kvs : KV} {is : List Int}, valsP kvs = some is → valsI (kvV kvs) = some is
  | [], is, e => by cases e; rfl
  | (k, x) :: r, is, e => by
    cases x with
    | int i =>
      unfold valsP at e
      obtain ⟨js, h1, rfl⟩ := Option.map_eq_some_iff.mp e
      show (valsI (kvV r)).map (i :: ·) = _
      rw [valsI_kv h1]
      rfl
    | _ => cases e
def pMinV (v : Nat) : Px := fun s => bd (ownT s v) fun kvs => bd (valsP kvs) fun is => match is with
  | a :: l => some (.int (minL (a :: l)))
  | [] => none
theorem qMinV {v : Nat} : QE (cMinV (cVar v)) (pMinV v) := ⟨fun R q => by
  obtain ⟨kvs, e1, q⟩ := bd_some q
  obtain ⟨is, e2, q⟩ := bd_some q
  obtain ⟨l, a, _, c⟩ := R.dict e1
  unfold cMinV
  rw [bnd_ok (var_ok a)]
  refine lift_ok ?_
  split at q
  · cases q
    unfold gMinV
    simp only [c, valsI_kv e2]
  · cases q⟩
def pNewDP (i : Nat) (a : Px) : PS → Option PF := fun s => bd (a s) fun x => match x with
  | .list ds => bd (kvsD ds) fun kvs => if (kvs.map (·.1)).Nodup then some (.nx (s.set i (.t kvs))) else none
  | _ => none
theorem qNewDP {i : Nat} (he : QV e pe) : QS (sAsg (gN i) (cAp gDictP (cCons e (cNil)))) (pNewDP i pe) := ⟨fun {n s σ h f} R q => by
  obtain ⟨x, e1, q⟩ := bd_some q
  obtain ⟨v, z1, w1⟩ := he.d R e1
  split at q
  · rename_i ds
    obtain ⟨kvs, e2, q⟩ := bd_some q
    split at q
    · rename_i hnd
      cases q
      refine ⟨_, _, asg_n (ap_ok (one_ok z1) (v := .ref h.length) (h2 := h ++ [.dT (kvV kvs)]) ?_), R.newO i rfl (kv_below kvs _), take_app R.nh _⟩
      unfold gDictP
      simp only [w1, e2]
      rw [if_pos hnd]
    · cases q
  · cases q⟩
def pNewT (i : Nat) : PS → Option PF := fun s => some (.nx (s.set i (.t [])))
theorem qNewT {i : Nat} : QS (sAsg (gN i) cNewT) (pNewT i) := ⟨fun {n s σ h f} R q => by
  cases q
  exact ⟨_, _, asg_n (x := .ref h.length) (h' := h ++ [.dT (kvV [])]) rfl, R.newO i rfl (kv_below [] _), take_app R.nh _⟩⟩
def pSetT (v : Nat) (k e : Px) : PS → Option PF := fun s => bd (e s) fun y => bd (ownT s v) fun kvs => bd (k s) fun x => bd (dKey x) fun kk => if kvs.length < sizeLine then some (.nx (s.set v (.t (putP kvs kk y)))) else none
theorem qSetT {v : Nat} {ek : CE} {pk : Px} (hk : QE ek pk) (he : QE e pe) : QS (sStore setD (cVar v) ek e) (pSetT v pk pe) := ⟨fun {n s σ h f} R q => by
  obtain ⟨y, e1, q⟩ := bd_some q
  obtain ⟨kvs, e2, q⟩ := bd_some q
  obtain ⟨x, e3, q⟩ := bd_some q
  obtain ⟨kk, e4, q⟩ := bd_some q
  split at q
  · rename_i hl
    cases q
    obtain ⟨l, a, b, c, R2⟩ := R.updO (ownT_some e2) rfl (v' := .t (putP kvs kk y)) rfl (kv_below _)
    refine ⟨.nx σ, _, ?_, R2, take_set b _⟩
    refine store_ok' (he.ok R e1) (var_ok a) (hk.ok R e3) ?_
    unfold setD
    simp only [c, kyT_d e4]
    rw [if_pos (by unfold kvV; rw [List.length_map]; exact hl), putA_kv]
  · cases q⟩
def keyP (kvs : KV) : List PyData := kvs.map fun kv => .tuple (kv.1.map dOfK)
def pListD (v : Nat) : Px := fun s => bd (ownT s v) fun kvs => some (.list (keyP kvs))
theorem qListD {v : Nat} : QE (cAp gListD (cCons (cVar v) (cNil))) (pListD v) := ⟨fun R q => by
  obtain ⟨kvs, e1, q⟩ := bd_some q
  cases q
  obtain ⟨l, a, _, c⟩ := R.dict e1
  refine ap_ok (one_ok (var_ok a)) ?_
  unfold gListD
  simp only [c]
  unfold keyP kvV
  rw [List.map_map]
  rfl⟩
end
theorem pDGet_ok {v : Nat} {e : Px} {s : PS} {kvs : KV} {x y : PyData} {k : List L2.Key} (e1 : ownT s v = some kvs) (e2 : e s = some x) (e3 : dKey x = some k) (e4 : valP kvs k = some y) : pDGet v e s = some y := bd_ok e1 (bd_ok e2 (bd_ok e3 e4))
end MP
/-! Comprehensions of one clause, whatever they make. -/
namespace MV
open PySem PySem.Spec PyProof.Rows L2
/-- one clause; what is made goes into the object at D -/
structure Cp1 (e t0 i0 : Expr) (ifs0 : List Expr) (put : Addr → Env → Sem Unit) : Prop where
  cl : clausesOf e = [⟨t0, i0, ifs0, 0⟩]
  q : ∀ d it acc env, (Code.compLoop e d it acc env).quiet = true
  au : ∀ (A : Around) d it acc env, A.under (Code.compLoop e d it acc env) = A
  as : ∀ (A : Around) d it acc env, A.under (Code.compStart e d it acc env) = A
  dl : ∀ prog w d it acc env, (model prog w).den (.compLoop e d it acc env) = ((compTurn e d it acc env).onRaise fun x => do
    noteFrame x env
    theTreesLotGoes x)
  ds : ∀ prog w d it acc env, ∃ p, (model prog w).den (.compStart e d it acc env) = ((compStart e d it acc env).onRaise fun x => do
    noteFrame x env
    standAt p)
  inn : ∀ (it : Value) (D : Addr) (env : Env), compTurn e 0 it (.ref D) env = (do
    standAt i0.pos
    let r ← pyNext it
    match r with
    | none => pure (Fin.done Flow.next)
    | some v => do
      letOwnedTupleGo t0 it v
      assign t0 env v
      let ok ← ifsOf ifs0 env
      if ok = true then do
        put D env
        again (.compLoop e 0 it (.ref D) env)
      else again (.compLoop e 0 it (.ref D) env))
theorem cp1_dict (kx vx t0 i0 : Expr) (ifs0 : List Expr) (scope : Scope) (pos : Pos) : Cp1 (.DictComp kx vx [⟨t0, i0, ifs0, 0⟩] scope pos) t0 i0 ifs0 (putDict kx vx) :=
  ⟨rfl, fun _ _ _ _ => rfl, fun _ _ _ _ _ => rfl, fun _ _ _ _ _ => rfl, fun _ _ _ _ _ _ => rfl, fun _ _ _ _ _ _ => ⟨_, rfl⟩, fun _ _ _ => rfl⟩
theorem cp1_set (x t0 i0 : Expr) (ifs0 : List Expr) (scope : Scope) (pos : Pos) : Cp1 (.SetComp x [⟨t0, i0, ifs0, 0⟩] scope pos) t0 i0 ifs0 (putSet x) :=
  ⟨rfl, fun _ _ _ _ => rfl, fun _ _ _ _ _ => rfl, fun _ _ _ _ _ => rfl, fun _ _ _ _ _ _ => rfl, fun _ _ _ _ _ _ => ⟨_, rfl⟩, fun _ _ _ => rfl⟩
section
variable {prog : Program} {w : World} {A : Around} {R : Result → Shared → Prop} {s : Shared} {e t0 i0 : Expr} {ifs0 : List Expr} {put : Addr → Env → Sem Unit} {it : Value} {D : Addr} {env : Env}
theorem cp1_in (C : Cp1 e t0 i0 ifs0 put) (I : Nat → Shared → Prop)
    (turn : ∀ n s, I n s → wpAny (model prog w) A (pyNext it) (fun r s1 => (r = none ∧ R (.ok .next) s1) ∨ ∃ v, r = some v ∧
      wpAny (model prog w) A (letOwnedTupleGo t0 it v) (fun _ s2 => wpAny (model prog w) A (assign t0 env v) (fun _ s3 => wpAny (model prog w) A (ifsOf ifs0 env) (fun ok s4 =>
        if ok = true then wpAny (model prog w) A (put D env) (fun _ s5 => ∃ m, m < n ∧ I m s5) NoE s4 else ∃ m, m < n ∧ I m s4) NoE s3) NoE s2) NoE s1) NoE s)
    (n : Nat) (h : I n s) : codeAny (model prog w) A (.compLoop e 0 it (.ref D) env) R s := by
  refine codeAny_loop (C.q _ _ _ _) I (fun n s hI => ?_) n h
  rw [C.dl, C.au]
  refine wpAny_noted ?_
  rw [C.inn]
  refine wpAny_bind (wpAny_standAt (wpAny_bind (wpAny_mono (turn n s hI) (fun r s1 h1 => ?_) fun _ _ z => z.elim)))
  obtain ⟨rfl, h1⟩ | ⟨v, rfl, h1⟩ := h1
  · exact wpAny_pure h1
  · refine wpAny_bind (wpAny_mono h1 (fun _ s2 h2 => ?_) fun _ _ z => z.elim)
    refine wpAny_bind (wpAny_mono h2 (fun _ s3 h3 => ?_) fun _ _ z => z.elim)
    refine wpAny_bind (wpAny_mono h3 (fun ok s4 h4 => ?_) fun _ _ z => z.elim)
    cases ok with
    | true =>
      rw [if_pos rfl] at h4 ⊢
      exact wpAny_bind (wpAny_mono h4 (fun _ s5 h5 => wpAny_pure ⟨rfl, h5⟩) fun _ _ z => z.elim)
    | false =>
      rw [if_neg (fun z => nomatch z)] at h4 ⊢
      exact wpAny_pure ⟨rfl, h4⟩
theorem cp1_start0 (C : Cp1 e t0 i0 ifs0 put) (h0 : codeAny (model prog w) A (.compLoop e 0 it (.ref D) env) R s)
    (h : wpAny (model prog w) A (pyIter it) (fun it' s' => codeAny (model prog w) A (.compLoop e 0 it' (.ref D) env) R s') NoE s) : codeAny (model prog w) A (.compStart e 0 it (.ref D) env) R s := by
  refine codeAny_of_tree ?_
  obtain ⟨p, ep⟩ := C.ds prog w 0 it (.ref D) env
  rw [ep, C.as]
  refine wpAny_notedAt ?_
  unfold compStart
  rw [C.cl]
  refine (id (wpAny_bind (wpAny_askSetting (wpAny_ite ?_))))
  split
  · exact wpAny_pure ⟨C.q _ _ _ _, h0⟩
  · exact wpAny_bind (wpAny_rule (wpAny_bind (wpAny_standAt (wpAny_bind (wpAny_mono h (fun it' s' h' => wpAny_pure ⟨C.q _ _ _ _, h'⟩) fun _ _ z => z.elim)))))
end
/-- what is wanted of a comprehension of one clause that puts into an object u0 at first -/
def tCp1 (u0 : Addr → HO) (wi : TI) (g : TG) (tt : TT) (tp : Addr → L2.St → Hp → (Hp → Prop) → Prop) (vs : List Nat) : TE := fun σ H Q =>
  wi σ H fun J H1 => ∀ D, H1 D = none → ∃ W : Nat → Nat → Hp → Prop, (∃ m, W 0 m (upd H1 D (u0 D))) ∧ ∀ i m H, W i m H →
    (J.stop i H ∧ Q (.ref D) H) ∨ (J.go i H ∧ ∃ Nx : Hp → Prop, (∀ H', Nx H' → ∃ m', m' < m ∧ W (i + 1) m' H') ∧ ∀ x H', J.yld i H x H' →
      g x (wipe σ vs) H' fun σ2 H2 => wipe σ2 vs = wipe σ vs ∧ tt σ2 H2 fun b H3 => if b = true then tp D σ2 H3 Nx else Nx H3)
section
variable {X : Cx} {e t0 i0 : Expr} {ifs0 : List Expr} {put : Addr → Env → Sem Unit} {scope : Scope} {own : List (Str × Nat)} {wi : TI} {g : TG} {tt : TT} {tp : Addr → L2.St → Hp → (Hp → Prop) → Prop} {u0 : Addr → HO} {Ty : String} {data : Data} {mk : Sem Value} {pos : Pos}
theorem cp1_core {use : Option (Value → Sem Unit)} {Qf : Value → Shared → Prop} (C : Cp1 e t0 i0 ifs0 put) (hc : X.calm = true) (hN : X.N.Nodup) (hi : PI X t0 i0 wi) (ok : BlkOk X.N X.env.scope scope own)
    (hg : ∀ s H C cl fp, PG (X.blk s H scope (compEnvC scope cl C X.env) fp) t0 g) (ht : ∀ s H C cl fp, PTs (X.blk s H scope (compEnvC scope cl C X.env) fp) ifs0 tt)
    (hp : ∀ s H C cl fp, PP (X.blk s H scope (compEnvC scope cl C X.env) fp) put tp)
    (hs : ∀ x, foldedSetIterable i0 X.env x = pure x)
    (hd : ∀ {Q : Value → Shared → Prop} {s : Shared}, Q (.ref s.heap.objs.size) { heap := s.heap.push { cls := .type Ty, data := data }, gens := s.gens, drawn := s.drawn, toks := s.toks, os := s.os } → wpAny (model X.prog X.w) X.A mk Q X.xe s) (hob : ∀ (H : Hp) (h : Heap), sysModules < h.objs.size → ObjOk X.prog X.w H (h.push { cls := .type Ty, data := data }) h.objs.size (u0 h.objs.size))
    (pins : List (Addr × Obj)) (s : Shared) (σ : L2.St) (H : Hp) (Q : VK) (I : L2.Inv X pins σ H s) (h : tCp1 u0 wi g tt tp (own.map (·.2)) σ H Q)
    (hRR : ∀ D Cc s' m H', L2.Inv X pins σ H' s' → Q (.ref D) H' → s'.heap.Ns Cc m → FpOk X pins H' Cc → compPost (model X.prog X.w) X.A X.xe use Qf (.ref D) Cc (.ok .next) s') :
    wpAny (model X.prog X.w) X.A (comprehension e scope X.env pos mk false (eval i0 X.env) use) Qf X.xe s := by
  have hfree : ∀ y ∈ scope.names, y.2 = NameKind.free → ∃ c, List.lookup y.1 X.env.cells = some c := fun y hy e => (ok.free y hy e).elim (fun k => I.ok.has y.1 (.inl k)) fun k => I.ok.has y.1 (.inr k)
  refine wpAny_comprehension_free C.cl hs (closure_ok hfree) ok.kind (fun y hy e => (ok.uniq y hy).trans (by rw [e])) ?_
  refine thn (hi.run pins s σ H _ I h) fun xv s1 hx => thn hx fun itv s2 h2 => ?_
  obtain ⟨it, fp, tn, J, H2, rfl, I2, T, st2, f2, q⟩ := h2
  refine hd (newEnv_comp ?_)
  have hDn : H2 s2.heap.objs.size = none := HOk.fresh I2.hok (Nat.le_refl _)
  obtain ⟨W, ⟨m0, w0⟩, turn⟩ := q s2.heap.objs.size hDn
  generalize hDe : s2.heap.objs.size = D at *
  have I3 : L2.Inv X pins σ (upd H2 D (u0 D)) { heap := s2.heap.push { cls := .type Ty, data := data }, gens := s2.gens, drawn := s2.drawn, toks := s2.toks, os := s2.os } :=
    I2.laid (fun b o e => Heap.get?_push_of_some _ e) (Nat.le_of_eq hDe) (hDe ▸ hob _ s2.heap I2.big)
  have sz : ∀ b ∈ fp, b < s2.heap.objs.size := fun b hb => by
    obtain ⟨o, e, _⟩ := T.obj 0 s2.heap st2 b hb
    exact Heap.lt_size e
  have h3 : ∀ b o, s2.heap.get? b = some o → (s2.heap.push { cls := .type Ty, data := data }).get? b = some o := fun b o e => Heap.get?_push_of_some _ e
  have hsz : (s2.heap.push { cls := .type Ty, data := data }).objs.size = s2.heap.objs.size + 1 := Heap.size_push _ _
  generalize hs3 : ({ heap := s2.heap.push { cls := .type Ty, data := data }, gens := s2.gens, drawn := s2.drawn, toks := s2.toks, os := s2.os } : Shared) = s3 at *
  have hh3 : s3.heap = s2.heap.push { cls := .type Ty, data := data } := by rw [← hs3]
  have f3 : ∀ b ∈ fp, FpOk X pins (upd H2 D (u0 D)) b ∧ b < s3.heap.objs.size := fun b hb => by
    have hlt := sz b hb
    refine ⟨⟨?_, (f2 b hb).2⟩, by rw [hh3, hsz]; exact Nat.lt_succ_of_lt hlt⟩
    rw [upd_ne (by rw [← hDe]; exact Nat.ne_of_lt hlt)]
    exact (f2 b hb).1
  have st3 : tn 0 s3.heap := T.keep 0 s2.heap s3.heap st2 fun b _ o e => by rw [hh3]; exact h3 b o e
  have I4 := block_start I3 ok hN f3
  generalize hC : s3.heap.objs.size = Cc at *
  generalize hcl : cellsFrom (Cc + 1) scope.names (cloFrom X.env.cells scope.names []) = cl at *
  have pg := hg s3 (upd H2 D (u0 D)) Cc cl fp
  have pt := ht s3 (upd H2 D (u0 D)) Cc cl fp
  have pp := hp s3 (upd H2 D (u0 D)) Cc cl fp
  have nfp : ∀ b ∈ fp, upd H2 D (u0 D) b = none := fun b hb => (f3 b hb).1.1
  generalize hXb : X.blk s3 (upd H2 D (u0 D)) scope (compEnvC scope cl Cc X.env) fp = Xb at *
  generalize hσ : wipe σ (own.map (·.2)) = σw at *
  generalize hs4 : ({ heap := pushCells (s3.heap.push { cls := .type "dict", data := Data.dict #[] }) scope.names, gens := s3.gens, drawn := s3.drawn, toks := s3.toks, os := s3.os } : Shared) = s4 at *
  have st4 : tn 0 s4.heap := T.keep 0 s3.heap s4.heap st3 fun b x o e => by
    rw [← hs4]
    exact pushCells_keeps scope.names _ b o (Heap.get?_push_of_some _ e)
  have eprog : Xb.prog = X.prog := by rw [← hXb]
  have ew : Xb.w = X.w := by rw [← hXb]
  have eK : Xb.K = X.K := by rw [← hXb]
  have ecalm : Xb.calm = true := by rw [← hXb]; exact hc
  have eA : Xb.A = X.A := by rw [← hXb]
  have exe : Xb.xe = NoE := by rw [← hXb]
  have eex : Xb.ex = fp := by rw [← hXb]
  have epn : Xb.pn = [] := by rw [← hXb]
  have eenv : Xb.env = compEnvC scope cl Cc X.env := by rw [← hXb]
  have eloc : Xb.env.locals = Cc := by rw [eenv]; rfl
  have stat : ∀ {σ' H' s'}, L2.Inv Xb [] σ' H' s' → (∀ b ∈ fp, H' b = none) → ∀ b ∈ fp, FpOk Xb [] H' b := fun {σ' H' s'} I' hn b hb => by
    have hx := I'.ok.exf b (eex ▸ hb)
    refine ⟨hn b hb, hx.1, I'.ok.exfs b (eex ▸ hb), .inl (eex ▸ hb), hx.2, fun p hp => ?_⟩
    rw [epn] at hp
    cases hp
  have rg := pg.run
  rw [eprog, ew, eA, exe, eenv] at rg
  have rt := pt.run
  rw [eprog, ew, eA, exe, eenv] at rt
  have rp := pp
  unfold PP at rp
  rw [eprog, ew, eA, exe, eenv] at rp
  clear pg pt pp hg ht hp hob hi
  have hcall : ∀ {H5 s6}, L2.Inv Xb [] σw H5 s6 → L2.Inv X pins σ H5 s6 := by
    rw [← hXb]
    exact fun {H5 s6} I6 => Inv.call' I3 I6.os I6.base I6.hok I6.bare fun b hb => ⟨(f3 b hb).1.2.2.2.1, (f3 b hb).1.2.1, (f3 b hb).1.2.2.2.2.1, (f3 b hb).1.2.2.2.2.2⟩
  have loop : codeAny (model X.prog X.w) X.A (.compLoop e 0 (.ref it) (.ref D) (compEnvC scope cl Cc X.env)) (compPost (model X.prog X.w) X.A X.xe use Qf (.ref D) Cc) s4 := by
    refine cp1_in C (fun n s' => ∃ i H', L2.Inv Xb [] σw H' s' ∧ tn i s'.heap ∧ (∀ b ∈ fp, H' b = none) ∧ W i n H') (fun n s5 => ?_) m0 ⟨0, _, I4, st4, nfp, w0⟩
    rintro ⟨i, H5, I5, st5, n5, w5⟩
    obtain ⟨stop, qq⟩ | ⟨go, Nx, hNx, step⟩ := turn i n H5 w5
    · have td := T.done Xb eprog ew eK ecalm i [] s5 σw H5 NoE I5 (stat I5 n5) st5 stop
      rw [eA] at td
      refine thn td fun r s6 ⟨hr, I6⟩ => .inl ⟨hr, ?_⟩
      have nC : H5 Cc = none := eloc ▸ I6.free
      obtain ⟨m, hn, _⟩ := I6.loc
      rw [eloc] at hn
      have fpC : FpOk X pins H5 Cc := Inv.fpOk I3 (Nat.le_of_eq hC) nC
      exact hRR D Cc s6 m H5 (hcall I6) qq hn fpC
    · have ti := T.item Xb eprog ew eK ecalm i [] s5 σw H5 NoE I5 (stat I5 n5) st5 go
      rw [eA] at ti
      refine thn ti fun r s6 ⟨u, hr, h6⟩ => .inr ⟨u, hr, thn h6 fun _ s7 ⟨x, H7, I7, rel, yl, st7, n7⟩ => ?_⟩
      have I7p := I7.pinned (stat I7 n7) (T.obj (i + 1) s7.heap st7)
      have back : ∀ {σ' H' s'}, L2.Inv Xb ([] ++ pinsAt fp s7.heap) σ' H' s' → (∀ b ∈ fp, H' b = none) ∧ tn (i + 1) s'.heap := fun {σ' H' s'} I' => by
        refine ⟨fun b hb => ?_, T.keep (i + 1) s7.heap _ st7 fun b hb o eo => (I'.pin (b, o) (List.mem_append_right _ (mem_pinsAt hb eo))).1⟩
        obtain ⟨o, eo, _⟩ := T.obj (i + 1) s7.heap st7 b hb
        exact (I'.pin (b, o) (List.mem_append_right _ (mem_pinsAt hb eo))).2.1
      generalize hP : [] ++ pinsAt fp s7.heap = P at *
      have unp : ∀ {σ' H' s'}, L2.Inv Xb P σ' H' s' → L2.Inv Xb [] σ' H' s' := fun {σ' H' s'} I' => Inv.unpinned (hP ▸ I')
      have close : ∀ {σ' H' s'}, L2.Inv Xb P σ' H' s' → (∀ (l : Nat) (v : V), σw[l]? = some (some v) → σ'[l]? = some (some v)) → Nx H' → ∃ m, m < n ∧ ∃ i H', L2.Inv Xb [] σw H' s' ∧ tn i s'.heap ∧ (∀ b ∈ fp, H' b = none) ∧ W i m H' := fun {σ' H' s'} I' hσ' hx => by
        obtain ⟨m', hm, hw⟩ := hNx _ hx
        exact ⟨m', hm, i + 1, H', (unp I').weak (I5.len.trans I'.len.symm) hσ', (back I').2, (back I').1, hw⟩
      refine thn (rg P s7 σw H7 x u _ I7p rel (step x H7 yl)) fun _ s8 ⟨σ8, H8, I8, hw8, ht8⟩ => ?_
      refine thn (rt P s8 σ8 H8 _ I8 ht8) fun b s9 ⟨H9, I9, q9⟩ => ?_
      have hσ8 : ∀ (l : Nat) (v : V), σw[l]? = some (some v) → σ8[l]? = some (some v) := fun l v hl => by
        rw [← hw8] at hl
        exact (wipe_some hl).1
      cases b with
      | false =>
        rw [if_neg (fun z => nomatch z)] at q9 ⊢
        exact close I9 hσ8 q9
      | true =>
        rw [if_pos rfl] at q9 ⊢
        exact thn (rp D P s9 σ8 H9 Nx I9 q9) fun _ s10 ⟨H10, I10, nx⟩ => close I10 hσ8 nx
  exact cp1_start0 C loop (T.self X.A 0 s4 _ _ st4 loop)
theorem cp1_run (C : Cp1 e t0 i0 ifs0 put) (hc : X.calm = true) (hN : X.N.Nodup) (hi : PI X t0 i0 wi) (ok : BlkOk X.N X.env.scope scope own)
    (hg : ∀ s H C cl fp, PG (X.blk s H scope (compEnvC scope cl C X.env) fp) t0 g) (ht : ∀ s H C cl fp, PTs (X.blk s H scope (compEnvC scope cl C X.env) fp) ifs0 tt)
    (hp : ∀ s H C cl fp, PP (X.blk s H scope (compEnvC scope cl C X.env) fp) put tp)
    (hs : ∀ x, foldedSetIterable i0 X.env x = pure x)
    (hd : ∀ {Q : Value → Shared → Prop} {s : Shared}, Q (.ref s.heap.objs.size) { heap := s.heap.push { cls := .type Ty, data := data }, gens := s.gens, drawn := s.drawn, toks := s.toks, os := s.os } → wpAny (model X.prog X.w) X.A mk Q X.xe s) (hob : ∀ (H : Hp) (h : Heap), sysModules < h.objs.size → ObjOk X.prog X.w H (h.push { cls := .type Ty, data := data }) h.objs.size (u0 h.objs.size))
    (pins : List (Addr × Obj)) (s : Shared) (σ : L2.St) (H : Hp) (Q : VK) (I : L2.Inv X pins σ H s) (h : tCp1 u0 wi g tt tp (own.map (·.2)) σ H Q) :
    wpAny (model X.prog X.w) X.A (comprehension e scope X.env pos mk false (eval i0 X.env)) (EP X pins σ Q) X.xe s :=
  cp1_core C hc hN hi ok hg ht hp hs hd hob pins s σ H Q I h fun D Cc s' m H' I' q hn f =>
    ⟨m, hn, fun h' sb => ⟨.ref D, H', I'.turned (it := Cc) (fun b o hb eo => (sb.2 b hb).trans eo) f.1 f.2.1 f.2.2.2.1 f.2.2.2.2.1 f.2.2.2.2.2, rfl, q⟩⟩
/-- the same kept under a name at once -/
theorem cp1_use {i : Nat} {y : Str} {py : Pos} (C : Cp1 e t0 i0 ifs0 put) (hc : X.calm = true) (hN : X.N.Nodup) (hy : X.N[i]? = some y) (hyl : X.env.scope.names.lookup y = some .local) (hi : PI X t0 i0 wi) (ok : BlkOk X.N X.env.scope scope own)
    (hg : ∀ s H C cl fp, PG (X.blk s H scope (compEnvC scope cl C X.env) fp) t0 g) (ht : ∀ s H C cl fp, PTs (X.blk s H scope (compEnvC scope cl C X.env) fp) ifs0 tt)
    (hp : ∀ s H C cl fp, PP (X.blk s H scope (compEnvC scope cl C X.env) fp) put tp)
    (hs : ∀ x, foldedSetIterable i0 X.env x = pure x)
    (hd : ∀ {Q : Value → Shared → Prop} {s : Shared}, Q (.ref s.heap.objs.size) { heap := s.heap.push { cls := .type Ty, data := data }, gens := s.gens, drawn := s.drawn, toks := s.toks, os := s.os } → wpAny (model X.prog X.w) X.A mk Q X.xe s) (hob : ∀ (H : Hp) (h : Heap), sysModules < h.objs.size → ObjOk X.prog X.w H (h.push { cls := .type Ty, data := data }) h.objs.size (u0 h.objs.size))
    (pins : List (Addr × Obj)) (s : Shared) (σ : L2.St) (H : Hp) (P : L2.St → Hp → Prop) (I : L2.Inv X pins σ H s) (h : tCp1 u0 wi g tt tp (own.map (·.2)) σ H fun x H1 => gName i x σ H1 P) :
    wpAny (model X.prog X.w) X.A (comprehension e scope X.env pos mk false (eval i0 X.env) (some (assign (.Name y py) X.env))) (fun _ s' => ∃ σ' H', L2.Inv X pins σ' H' s' ∧ P σ' H') X.xe s :=
  cp1_core C hc hN hi ok hg ht hp hs hd hob pins s σ H _ I h fun L Cc s' m H' I' q hn f => by
    show wpAny _ _ (assign (.Name y py) X.env (.ref L)) _ _ _
    refine wpAny_assign_Name (store_ok2 (v := V.ref L) I' hN hy (.inl hyl) rfl (fun s2 I2 ⟨a, sb, ha⟩ => ?_) (.inr hyl))
    have haC : Cc ≠ a := by
      rcases ha with z | z
      · rw [z]; exact f.2.1
      · exact fun e => f.2.2.2.2.1 y a z e.symm
    exact ⟨m, hn.sameBut sb haC, fun h3 sb3 => ⟨_, H', I2.turned (it := Cc) (t' := s2.toks) (fun b o hb e => (sb3.2 b hb).trans e) f.1 f.2.1 f.2.2.2.1 f.2.2.2.2.1 f.2.2.2.2.2, q⟩⟩
end
end MV
/-! sorted({e for .. for ..}): sets of ints, sets of tuples of ints -/
namespace MV
open PySem PySem.Spec PyProof.Rows L2
/-! ### what is put -/
theorem pp_set {X : Cx} {x : Expr} {te : TE} {PA : Addr → V → Hp → (Hp → Prop) → Prop} (he : PE X x te) (hA : ∀ (D : Addr) (y : V) (u : Value) (pins : List (Addr × Obj)) (s : Shared) (σ : L2.St) (H : Hp) (N : Hp → Prop), L2.Inv X pins σ H s → RelV y u → PA D y H N →
    wpAny (model X.prog X.w) X.A (call (.builtin "set.add") [.ref D, u]) (fun _ s' => ∃ H', L2.Inv X pins σ H' s' ∧ N H') X.xe s) : PP X (putSet x) (fun D σ H N => te σ H fun y H4 => PA D y H4 N) := by
  intro D pins s σ H N I h
  unfold putSet
  refine wpAny_bind (thn (he.run pins s σ H _ I h) fun u s1 ⟨y, H4, I4, ry, h4⟩ => ?_)
  refine wpAny_bind (wpAny_standAt (wpAny_bind (wpAny_mono (hA D y u pins s1 σ H4 N I4 ry h4) (fun _ s2 q => wpAny_pure q) fun _ _ z => z)))
/-- an int -/
def paI (w : World) (D : Addr) (y : V) (H : Hp) (N : Hp → Prop) : Prop := ∃ (k : Int) (S : Int → Bool) (n : Nat), y = .int k ∧ H D = some (SetO w D S n) ∧ n + 1 < scanBound ∧ N (upd H D (SetO w D (fun j => S j || decide (j = k)) (if S k = true then n else n + 1)))
theorem paI_ok {X : Cx} (D : Addr) (y : V) (u : Value) (pins : List (Addr × Obj)) (s : Shared) (σ : L2.St) (H : Hp) (N : Hp → Prop) (I : L2.Inv X pins σ H s) (r : RelV y u) (h : paI X.w D y H N) :
    wpAny (model X.prog X.w) X.A (call (.builtin "set.add") [.ref D, u]) (fun _ s' => ∃ H', L2.Inv X pins σ H' s' ∧ N H') X.xe s := by
  obtain ⟨k, S, n, rfl, ha, room, q⟩ := h
  obtain ⟨tk, rfl⟩ := r
  have R := setO_get I ha
  refine setR_add R room fun h' sb new => ?_
  have he : ∃ u, h'.get? D = some u := by
    have ⟨o, _, _, _, ho, _⟩ := new
    exact ⟨o, ho⟩
  exact ⟨_, I.write (e := D) (t' := s.toks + 1) (by rw [ha]; trivial) (.inl rfl) (fun b u hb hu => (sb.2 b hb).trans hu) he (setO_new new), q⟩
/-- a tuple of ints -/
theorem setT_add {P : Program} {w : World} {A : Around} {E : Value → Shared → Prop} {s : Shared} {a x : Addr} {k : List Int} {L : List (Addr × List Int)} {es : Array (Int × Value)} {ep : Nat} {t : SetTable} {Q : Value → Shared → Prop}
    (R : SetTR P w s.heap a L es ep t) (hx : IsT P w s.heap k x) (hu : A.units + 5 < cLine) (hfew : L.length + 1 < 64)
    (hQ : ∀ h' L' es' ep' t' tk, Heap.SameBut a s.heap h' → SetTR P w h' a L' es' ep' t' → (k ∈ L.map (·.2) → L' = L) → (k ∉ L.map (·.2) → L'.Perm ((x, k) :: L)) → Q .none { s with heap := h', toks := tk }) :
    wpAny (model P w) A (call (.builtin "set.add") [.ref a, .ref x]) Q E s := by
  have tyS : s.TypeIs (.ref a) "set" := by
    obtain ⟨o, ho, hex, _⟩ := R.ob
    exact ⟨o, ho, hex.1⟩
  refine wpAny_call_entry F.slot_set_add tyS F.entry_set_add ?_ (F.args_set_add_2 _ _)
  unfold Builtin.«set.add» Builtin.Frozenset.oneOther
  simp only [List.isEmpty_nil, bind_assoc]
  unfold Builtin.Frozenset.addrOf setAdd
  refine wpAny_bind (wpAny_pure ?_)
  try dsimp only
  refine wpAny_bind (wpAny_pure ?_)
  try dsimp only
  refine wpAny_bind ?_
  refine wpAny_holding ?_
  refine wpAny_bind (wpAny_pyHash_tuple ?_ hx ?_)
  · show _ < _
    first | omega | (simp; omega)
  · refine add_at (s := { s with toks := s.toks + (k.length + 1) }) R hx ?_ hfew fun b h' L' es' ep' t' hsb hS2 c1 c2 => ?_
    · first | omega | (simp; omega)
    · show wpAny _ _ (PySem.ret Value.none) _ _ _
      exact wpAny_pure ⟨_, rfl, hQ h' L' es' ep' t' _ hsb hS2 c1 c2⟩
def paT (K : PySem.W.Frag) (P : Program) (w : World) (D : Addr) (y : V) (H : Hp) (N : Hp → Prop) : Prop := ∃ (x : Addr) (k : List Int) (L : List (Addr × List Int)), y = .ref x ∧ SqT K H x (k.map V.int) ∧ H D = some (SetTO P w D L) ∧ (∀ p ∈ L, SqT K H p.1 (p.2.map V.int)) ∧ L.length + 1 < 64 ∧
  ∀ L', (k ∈ L.map (·.2) → L' = L) → (k ∉ L.map (·.2) → L'.Perm ((x, k) :: L)) → N (upd H D (SetTO P w D L'))
theorem paT_ok {X : Cx} (hu : X.A.units + 64 < cLine) (D : Addr) (y : V) (u : Value) (pins : List (Addr × Obj)) (s : Shared) (σ : L2.St) (H : Hp) (N : Hp → Prop) (I : L2.Inv X pins σ H s) (r : RelV y u) (h : paT X.K X.prog X.w D y H N) :
    wpAny (model X.prog X.w) X.A (call (.builtin "set.add") [.ref D, u]) (fun _ s' => ∃ H', L2.Inv X pins σ H' s' ∧ N H') X.xe s := by
  obtain ⟨x, k, L, rfl, hx, ha, hL, few, q⟩ := h
  have R0 : SetT0 X.prog X.w s.heap D L := (I.hok D _ ha).1
  obtain ⟨es, ep, t, R⟩ := R0.full fun p hp => I.isT (hL p hp)
  cases r
  refine setT_add R (I.isT hx) (by omega) few fun h' L' es' ep' t' tk sb R' c1 c2 => ?_
  have he : ∃ u, h'.get? D = some u := by obtain ⟨o, ho, _⟩ := R'.ob; exact ⟨o, ho⟩
  exact ⟨_, I.write (e := D) (t' := tk) (by rw [ha]; trivial) (.inl rfl) (fun b u hb hu => (sb.2 b hb).trans hu) he (setTO_new R'.t0), q L' c1 c2⟩
/-! ### the machine's comprehension -/
section
variable {X : Cx} {x t0 i0 t1 i1 : Expr} {ifs0 ifs1 : List Expr} {scope : Scope} {own : List (Str × Nat)} {vs1 : List Nat} {wi wi1 : TI} {g g1 : TG} {tt tt1 : TT} {te : TE} {pos : Pos} {u0 : Addr → HO} {pa : Addr → V → Hp → (Hp → Prop) → Prop}
theorem pe_sc2 (hc : X.calm = true) (hN : X.N.Nodup) (hi : PI X t0 i0 wi) (ok : BlkOk X.N X.env.scope scope own) (hv : ∀ i ∈ vs1, i ∈ own.map (·.2))
    (hg : ∀ s H C cl fp, PG (X.blk s H scope (compEnvC scope cl C X.env) fp) t0 g) (ht : ∀ s H C cl fp, PTs (X.blk s H scope (compEnvC scope cl C X.env) fp) ifs0 tt)
    (hi1 : ∀ s H C cl fp, PI (X.blk s H scope (compEnvC scope cl C X.env) fp) t1 i1 wi1)
    (hg1 : ∀ s H C cl fp, PG (X.blk s H scope (compEnvC scope cl C X.env) fp) t1 g1) (ht1 : ∀ s H C cl fp, PTs (X.blk s H scope (compEnvC scope cl C X.env) fp) ifs1 tt1)
    (hk : ∀ s H C cl fp, PP (X.blk s H scope (compEnvC scope cl C X.env) fp) (putSet x) (fun D σ H N => te σ H fun y H4 => pa D y H4 N))
    (hob : ∀ (H : Hp) (h : Heap), sysModules < h.objs.size → ObjOk X.prog X.w H (h.push { cls := .type "set", data := .set #[] 0 (.fresh 0 0 (!X.w.params.followText "set-order")) }) h.objs.size (u0 h.objs.size))
    (hs : ∀ x, foldedSetIterable i0 X.env x = pure x := by intro _; rfl) (hs1 : ∀ env x, foldedSetIterable i1 env x = pure x := by intro _ _; rfl) :
    PE X (.SetComp x [⟨t0, i0, ifs0, 0⟩, ⟨t1, i1, ifs1, 0⟩] scope pos) (tCp2 u0 wi g tt wi1 g1 tt1 (fun D σ H N => te σ H fun y H4 => pa D y H4 N) (own.map (·.2)) vs1) :=
  ⟨fun pins s σ H Q I h => by
    rw [arm_eval_SetComp]
    exact cp2_run (cp2_set x t0 i0 t1 i1 ifs0 ifs1 scope pos) hc hN hi ok hv hg ht hi1 hg1 ht1 hk hs hs1 (Ty := "set") (data := .set #[] 0 (.fresh 0 0 (!X.w.params.followText "set-order"))) (mk := newSet (.type "set")) (fun h => PpSet.newSet_ok h) hob pins s σ H Q I h⟩
end
theorem ob_I {X : Cx} (H : Hp) (h : Heap) (_ : sysModules < h.objs.size) : ObjOk X.prog X.w H (h.push { cls := .type "set", data := .set #[] 0 (.fresh 0 0 (!X.w.params.followText "set-order")) }) h.objs.size (SetO X.w h.objs.size (fun _ => false) 0) := setO_new (setR_fresh X.w)
theorem ob_T {X : Cx} (H : Hp) (h : Heap) (_ : sysModules < h.objs.size) : ObjOk X.prog X.w H (h.push { cls := .type "set", data := .set #[] 0 (.fresh 0 0 (!X.w.params.followText "set-order")) }) h.objs.size (SetTO X.prog X.w h.objs.size []) :=
  setTO_new (setTR_fresh (Heap.get?_push_size _ rfl)).t0
/-! ### the code -/
section
variable {El : Type} [DecidableEq El]
def putE (acc : List El) (e : El) : List El := if e ∈ acc then acc else acc ++ [e]
def scL (el : Val → Option El) (g : CG) (tt : CT) (ce : CE) (σ : SA) : List Val → List El → AH → Option (List El × AH)
  | [], acc, h => some (acc, h)
  | x :: xs, acc, h => match g x h with
    | none => none
    | some ups => match tt (setAll σ ups) h with
      | some (.ok false, h1) => scL el g tt ce σ xs acc h1
      | some (.ok true, h1) => match ce (setAll σ ups) h1 with
        | some (.ok y, h2) => match el y with
          | some e => if acc.length + 1 < 64 then scL el g tt ce σ xs (putE acc e) h2 else none
          | none => none
        | _ => none
      | _ => none
def scO (el : Val → Option El) (g : CG) (ct : CT) (ci1 : CI) (vs1 : List Nat) (g1 : CG) (ct1 : CT) (ce : CE) (σ : SA) : List Val → List El → AH → Option (List El × AH)
  | [], acc, h => some (acc, h)
  | x :: xs, acc, h => match g x h with
    | none => none
    | some ups => match ct (setAll σ ups) h with
      | some (.ok false, h1) => scO el g ct ci1 vs1 g1 ct1 ce σ xs acc h1
      | some (.ok true, h1) => match ci1 (setAll σ ups) h1 with
        | some (.ok ys, h2) => (scL el g1 ct1 ce (wipeA (setAll σ ups) vs1) ys acc h2).bind fun p => scO el g ct ci1 vs1 g1 ct1 ce σ xs p.1 p.2
        | _ => none
      | _ => none
def cSc2 (el : Val → Option El) (fin : List El → Option PyData) (ci : CI) (own : List Nat) (g : CG) (ct : CT) (ci1 : CI) (vs1 : List Nat) (g1 : CG) (ct1 : CT) (ce : CE) : CE :=
  fun σ => bnd (ci σ) fun xs => lift fun h => (scO el g ct ci1 vs1 g1 ct1 ce (wipeA σ own) xs [] h).bind fun p => (fin p.1).map fun d => (.d d, p.2)
end
/-- what is changed at an external object -/
theorem ExtF.at_ext {m H m' H'} {D : Addr} {ψ φ : Heap → Prop} (E : ExtF m H m' H') (hD : H' D = some (.ext ψ)) : ExtF m H m' (upd H' D (.ext φ)) := by
  have ne : ∀ {a o}, H' a = some o → (∀ φ, o ≠ .ext φ) → a ≠ D := fun {a o} e n z => by
    subst z
    rw [hD] at e
    cases e
    exact n _ rfl
  refine ⟨⟨E.len, E.at', fun a o e n n2 hm => ?_⟩, fun a od u e => ?_⟩
  · obtain ⟨q1, q2⟩ := E.keep a o e n n2 hm
    exact ⟨by rw [upd_ne (ne q1 n2)]; exact q1, q2⟩
  · have q := E.frz a od u e
    rw [upd_ne (ne q fun _ z => nomatch z)]
    exact q
theorem Ext.at_new {m H m' H'} {D : Addr} {ψ φ : Heap → Prop} (E : Ext m H m' H') (h0 : H D = none) (hD : H' D = some (.ext ψ)) : Ext m H m' (upd H' D (.ext φ)) :=
  ⟨E.toExtF.at_ext hD, fun a χ e => by
    rw [upd_ne (fun z => by subst z; rw [h0] at e; cases e)]
    exact E.ext a χ e⟩
theorem Sim.at_ext {K T m h H} {D : Addr} {ψ φ : Heap → Prop} (S : Sim K T m h H) (hD : H D = some (.ext ψ)) : Sim K T m h (upd H D (.ext φ)) := by
  have E : ExtF m H m (upd H D (.ext φ)) := (Ext.refl m H).toExtF.at_ext hD
  refine ⟨Paired.mem_map S.cell fun c x hx q => q.monoF E fun a ea => ?_, S.inj, fun P hP => ?_⟩
  · subst ea
    obtain ⟨o, e, _, n⟩ := q.solid
    rw [upd_ne (fun z => by subst z; rw [hD] at e; cases e; exact n _ rfl)]
  · obtain ⟨ps, e, t⟩ := S.tab P hP
    exact ⟨ps, by rw [upd_ne (fun z => by subst z; rw [hD] at e; cases e)]; exact e, t⟩
/-- a kind of set: what it holds, how it stands, how one more is put -/
structure SKd (El : Type) [DecidableEq El] (K : PySem.W.Frag) (T : Tx) (el : Val → Option El) (At : MM → Hp → Addr → List El → Prop) (pa : Addr → V → Hp → (Hp → Prop) → Prop) (u0 : Addr → HO) : Prop where
  h0 : ∀ {m h H D}, Sim K T m h H → H D = none → At m (upd H D (u0 D)) D [] ∧ ∃ φ, u0 D = .ext φ
  ext : ∀ {m H D acc}, At m H D acc → ∃ φ, H D = some (.ext φ)
  keep : ∀ {m H m' H' D acc}, Ext m H m' H' → At m H D acc → At m' H' D acc
  put : ∀ {m h H D acc y v e N}, Sim K T m h H → RepV K m H y v → el y = some e → At m H D acc → acc.length + 1 < 64 → (∀ φ, At m (upd H D (.ext φ)) D (putE acc e) → N (upd H D (.ext φ))) → pa D v H N
section
variable {El : Type} [DecidableEq El] {el : Val → Option El} {At : MM → Hp → Addr → List El → Prop} {pa : Addr → V → Hp → (Hp → Prop) → Prop} {u0 : Addr → HO} {fin : List El → Option PyData}
variable {X : Cx} {T : Tx} {W : WX} {k : Nat} {ce : CE} {ct ct1 : CT} {ci ci1 : CI} {ns ns1 vs1 : List Nat} {g g1 : CG}
theorem sc2_read (SK : SKd El X.K T el At pa u0) {own : List (Str × Nat)} {σ : L2.St} {H : Hp} {Q : VK} {Q2 : V → Hp → Prop} (hns : ∀ i ∈ ns, i ∈ own.map (·.2)) (hn : ∀ x h ups, g x h = some ups → ups.map (·.1) = ns) (hns1 : ∀ i ∈ ns1, i ∈ vs1) (hn1 : ∀ x h ups, g1 x h = some ups → ups.map (·.1) = ns1)
    (hfin : ∀ m h H D acc d, Sim X.K T m h H → At m H D acc → fin acc = some d → (∀ m' H', Ext m H m' H' → Sim X.K T m' h H' → ∀ v, RepV X.K m' H' (.d d) v → Q v H') → Q2 (.ref D) H)
    (h : tE X T W (cSc2 el fin ci (own.map (·.2)) g ct ci1 vs1 g1 ct1 ce) σ H Q) : tCp2 u0 (tI X T W ci) (tG X.K T g) (tT X T W0 ct) (tI X T W0 ci1) (tG X.K T g1) (tT X T W0 ct1) (fun D σ H N => tE X T W0 ce σ H fun y H4 => pa D y H4 N) (own.map (·.2)) vs1 σ H Q2 := by
  obtain ⟨m, h0, σa, S, RS, A⟩ := h
  refine ⟨m, h0, σa, S, RS, A.bind.mono fun m1 h1 H1 xs E1 S1 A1 J hJ D hD => ?_⟩
  obtain ⟨z, h9, e9, q9⟩ := A1.lifted
  obtain ⟨⟨accE, hE⟩, eL, eE⟩ := Option.bind_eq_some_iff.mp e9
  obtain ⟨dE, eF, eE⟩ := Option.map_eq_some_iff.mp eE
  have RS1 : RepS X.K m1 H1 (wipeA σa (own.map (·.2))) (wipe σ (own.map (·.2))) := (RS.mono E1).wipe _
  obtain ⟨at0, φ0, eu0⟩ := SK.h0 S1 hD
  have E2 : Ext m1 H1 m1 (upd H1 D (u0 D)) := Ext.new S1 hD
  refine ⟨fun i mm H => mm = xs.length - i ∧ ∃ m h acc, Ext m1 H1 m H ∧ Sim X.K T m h H ∧ At m H D acc ∧ scO el g ct ci1 vs1 g1 ct1 ce (wipeA σa (own.map (·.2))) (xs.drop i) acc h = some (accE, hE), ⟨_, rfl, m1, h1, [], E2, S1.new hD, at0, by rw [List.drop_zero]; exact eL⟩, ?_⟩
  rintro i mm H2 ⟨rfl, m2, h2, acc2, E3, S2, at2, e2⟩
  by_cases hi : i < xs.length
  · refine .inr ⟨hJ.go m2 h2 H2 i E3 S2 hi, fun H' => ∃ m h acc, Ext m1 H1 m H' ∧ Sim X.K T m h H' ∧ At m H' D acc ∧ scO el g ct ci1 vs1 g1 ct1 ce (wipeA σa (own.map (·.2))) (xs.drop (i + 1)) acc h = some (accE, hE), fun H' hN => ⟨xs.length - (i + 1), by omega, rfl, hN⟩, fun x H3 y => ?_⟩
    obtain ⟨xa, m3, ex, E4, S3, rx⟩ := hJ.yld m2 h2 H2 i x H3 E3 S2 hi y
    have hd : xs.drop i = xa :: xs.drop (i + 1) := by
      obtain ⟨hi', e'⟩ := List.getElem?_eq_some_iff.mp ex
      rw [List.drop_eq_getElem_cons hi', e']
    rw [hd] at e2
    unfold scO at e2
    cases hgx : g xa h2 with
    | none => rw [hgx] at e2; cases e2
    | some ups =>
      simp only [hgx] at e2
      refine ⟨m3, h2, xa, ups, S3, rx, hgx, fun ws hw => ⟨?_, m3, h2, setAll (wipeA σa (own.map (·.2))) ups, S3, ?_, ?_⟩⟩
      · rw [wipe_setAll ws _ fun w hw' => hns _ (by
          have : w.1 ∈ ws.map (·.1) := List.mem_map.mpr ⟨w, hw', rfl⟩
          rw [ups_fst hw, hn _ _ _ hgx] at this
          exact this), wipe_wipe σ _ fun u hu => hu]
      · exact ((RS1.mono E3).mono E4).setAll hw
      · cases ht : ct (setAll (wipeA σa (own.map (·.2))) ups) h2 with
        | none => simp only [ht] at e2; cases e2
        | some p5 =>
          obtain ⟨r5, h5⟩ := p5
          simp only [ht] at e2
          cases r5 with
          | exn _ _ => cases e2
          | ok bb =>
            refine ⟨_, _, rfl, fun m5 H5 E5 S5 b' rb => ?_⟩
            subst rb
            cases b' with
            | false =>
              rw [if_neg Bool.false_ne_true]
              exact ⟨m5, h5, acc2, (E3.trans E4).trans E5, S5, SK.keep (E4.trans E5) at2, e2⟩
            | true =>
              rw [if_pos rfl]
              simp only at e2
              have RS2 := ((((RS1.mono E3).mono E4).setAll hw).mono E5)
              generalize hs2 : setAll (wipeA σa (own.map (·.2))) ups = s2 at e2 RS2 ⊢
              refine ⟨m5, h5, s2, S5, RS2, ?_⟩
              cases hci : ci1 s2 h5 with
              | none => simp only [hci] at e2; cases e2
              | some p6 =>
                obtain ⟨r6, h6⟩ := p6
                simp only [hci] at e2
                cases r6 with
                | exn _ _ => cases e2
                | ok ys =>
                  refine ⟨_, _, rfl, fun m6 H6 E6 S6 J1 hJ1 => ?_⟩
                  simp only at e2
                  obtain ⟨⟨accI, hI⟩, eI, eO⟩ := Option.bind_eq_some_iff.mp e2
                  have RS2 := (RS2.mono E6).wipe vs1
                  have EB : Ext m1 H1 m6 H6 := ((E3.trans E4).trans E5).trans E6
                  have at6 := SK.keep ((E4.trans E5).trans E6) at2
                  refine ⟨fun j mm H => mm = ys.length - j ∧ ∃ m h acc, ExtF m6 H6 m H ∧ Ext m1 H1 m H ∧ Sim X.K T m h H ∧ At m H D acc ∧ scL el g1 ct1 ce (wipeA s2 vs1) (ys.drop j) acc h = some (accI, hI), ⟨_, rfl, m6, h6, acc2, (Ext.refl _ _).toExtF, EB, S6, at6, by rw [List.drop_zero]; exact eI⟩, ?_⟩
                  rintro j mm G2 ⟨rfl, n2, g2, acc3, F3, B3, T2, at3, i2⟩
                  by_cases hj : j < ys.length
                  · refine .inr ⟨hJ1.go n2 g2 G2 j F3 T2 hj, fun H' => ∃ m h acc, ExtF m6 H6 m H' ∧ Ext m1 H1 m H' ∧ Sim X.K T m h H' ∧ At m H' D acc ∧ scL el g1 ct1 ce (wipeA s2 vs1) (ys.drop (j + 1)) acc h = some (accI, hI), fun H' hN => ⟨ys.length - (j + 1), by omega, rfl, hN⟩, fun y G3 yy => ?_⟩
                    obtain ⟨ya, n3, ey, F4, T3, ry⟩ := hJ1.yld n2 g2 G2 j y G3 F3 T2 hj yy
                    have id1 : ys.drop j = ya :: ys.drop (j + 1) := by
                      obtain ⟨hj', f'⟩ := List.getElem?_eq_some_iff.mp ey
                      rw [List.drop_eq_getElem_cons hj', f']
                    rw [id1] at i2
                    unfold scL at i2
                    cases igx : g1 ya g2 with
                    | none => rw [igx] at i2; cases i2
                    | some vps =>
                      simp only [igx] at i2
                      refine ⟨n3, g2, ya, vps, T3, ry, igx, fun us iw => ⟨?_, n3, g2, setAll (wipeA s2 vs1) vps, T3, ?_, ?_⟩⟩
                      · rw [wipe_setAll us _ fun w iw' => hns1 _ (by
                          have : w.1 ∈ us.map (·.1) := List.mem_map.mpr ⟨w, iw', rfl⟩
                          rw [ups_fst iw, hn1 _ _ _ igx] at this
                          exact this), wipe_wipe _ _ fun u hu => hu]
                      · exact ((RS2.monoF F3).mono F4).setAll iw
                      · cases it : ct1 (setAll (wipeA s2 vs1) vps) g2 with
                        | none => simp only [it] at i2; cases i2
                        | some q5 =>
                          obtain ⟨s5, g5⟩ := q5
                          simp only [it] at i2
                          cases s5 with
                          | exn _ _ => cases i2
                          | ok cc =>
                            refine ⟨_, _, rfl, fun n5 G5 F5 T5 c' rc => ?_⟩
                            subst rc
                            cases c' with
                            | false =>
                              rw [if_neg Bool.false_ne_true]
                              exact ⟨n5, g5, acc3, F3.trans (F4.trans F5).toExtF, B3.trans (F4.trans F5), T5, SK.keep (F4.trans F5) at3, i2⟩
                            | true =>
                              rw [if_pos rfl]
                              simp only at i2
                              refine ⟨n5, g5, setAll (wipeA s2 vs1) vps, T5, (((RS2.monoF F3).mono F4).setAll iw).mono F5, ?_⟩
                              cases ie : ce (setAll (wipeA s2 vs1) vps) g5 with
                              | none => simp only [ie] at i2; cases i2
                              | some q6 =>
                                obtain ⟨s6, g6⟩ := q6
                                simp only [ie] at i2
                                cases s6 with
                                | exn _ _ => cases i2
                                | ok y6 =>
                                  refine ⟨_, _, rfl, fun n6 G6 F6 T6 w6 r6 => ?_⟩
                                  simp only at i2
                                  have FF := (F4.trans F5).trans F6
                                  have at4 := SK.keep FF at3
                                  obtain ⟨ψ, eψ⟩ := SK.ext at4
                                  cases ik : el y6 with
                                  | none => simp only [ik] at i2; cases i2
                                  | some e6 =>
                                    simp only [ik] at i2
                                    by_cases iz : acc3.length + 1 < 64
                                    · rw [if_pos iz] at i2
                                      exact SK.put T6 r6 ik at4 iz fun φ atN => ⟨n6, g6, putE acc3 e6, (F3.trans FF.toExtF).at_ext eψ, (B3.trans FF).at_new hD eψ, T6.at_ext eψ, atN, i2⟩
                                    · rw [if_neg iz] at i2; cases i2
                  · refine .inl ⟨hJ1.stop n2 g2 G2 j F3 T2 (by omega), ?_⟩
                    rw [List.drop_of_length_le (by omega)] at i2
                    have i3 : (acc3, g2) = (accI, hI) := Option.some.inj i2
                    cases i3
                    exact ⟨n2, hI, accI, B3, T2, at3, eO⟩
  · refine .inl ⟨hJ.stop m2 h2 H2 i E3 S2 (by omega), ?_⟩
    rw [List.drop_of_length_le (by omega)] at e2
    have e3 : (acc2, h2) = (accE, hE) := Option.some.inj e2
    cases e3
    cases eE
    exact hfin m2 hE H2 D accE dE S2 at2 eF fun m' H' E S v r => q9 m' H' (E3.trans E) S v r
end
end MV
/-! sorted({e for .. for ..}): ints; tuples of ints -/
namespace MV
open PySem PySem.Spec PyProof.Rows L2
/-! ### ints -/
def elI : Val → Option Int
  | .d (.int k) => some k
  | _ => none
def AtI (w : World) (m : MM) (H : Hp) (D : Addr) (acc : List Int) : Prop := ∃ S n, H D = some (SetO w D S n) ∧ (∀ j, S j = decide (j ∈ acc)) ∧ n = acc.length ∧ acc.Nodup
theorem putE_mem {El : Type} [DecidableEq El] {acc : List El} {e x : El} : x ∈ putE acc e ↔ x ∈ acc ∨ x = e := by
  unfold putE
  split
  · rename_i h
    exact ⟨.inl, fun z => z.elim id fun q => q ▸ h⟩
  · rw [List.mem_append, List.mem_singleton]
theorem putE_nd {El : Type} [DecidableEq El] {acc : List El} {e : El} (h : acc.Nodup) : (putE acc e).Nodup := by
  unfold putE
  split
  · exact h
  · rename_i hn
    exact List.nodup_append.mpr ⟨h, List.nodup_cons.mpr ⟨List.not_mem_nil, List.nodup_nil⟩, fun x hx y hy z => hn (by rw [List.mem_singleton.mp hy] at z; exact z ▸ hx)⟩
theorem skI (K : PySem.W.Frag) (T : Tx) (w : World) : SKd Int K T elI (AtI w) (paI w) (fun D => SetO w D (fun _ => false) 0) where
  h0 := fun S hD => ⟨⟨_, _, upd_same, fun j => by simp, rfl, List.nodup_nil⟩, _, rfl⟩
  ext := fun ⟨S, n, h, _⟩ => ⟨_, h⟩
  keep := fun E ⟨S, n, h, q⟩ => ⟨S, n, E.ext _ _ h, q⟩
  put := fun {m h H D acc y v e N} S r ee at_ hz q => by
    obtain ⟨Sf, n, hD, hS, rfl, nd⟩ := at_
    unfold elI at ee
    split at ee
    · cases ee
      cases (show Rp K m H (.int e) v from r)
      refine ⟨e, Sf, _, rfl, hD, by unfold scanBound; omega, q _ ⟨_, _, upd_same, fun j => ?_, ?_, putE_nd nd⟩⟩
      · show (Sf j || decide (j = e)) = _
        rw [hS, Bool.eq_iff_iff, Bool.or_eq_true, decide_eq_true_eq, decide_eq_true_eq, decide_eq_true_eq, putE_mem]
      · rw [hS]
        unfold putE
        by_cases hm : e ∈ acc
        · rw [if_pos (decide_eq_true hm), if_pos hm]
        · rw [if_neg (by simpa using hm), if_neg hm, List.length_append]; rfl
    · cases ee
def finI (acc : List Int) : Option PyData := if acc.length < 64 then some (.list ((sortU acc).map .int)) else none
theorem finI_ok {K : PySem.W.Frag} {T : Tx} {w : World} {Q : VK} : ∀ m h H D acc d, Sim K T m h H → AtI w m H D acc → finI acc = some d → (∀ m' H', Ext m H m' H' → Sim K T m' h H' → ∀ v, RepV K m' H' (.d d) v → Q v H') → rSortedSet w [.ref D] H Q := by
  intro m h H D acc d S ⟨Sf, n, hD, hS, hn, nd⟩ e q
  unfold finI at e
  split at e
  · rename_i hz
    cases e
    refine ⟨D, Sf, n, rfl, hD, by omega, fun ns p pw mem _ hp => ?_⟩
    have em : ns = sortU acc := pw_uniq pw (sortU_pw acc) fun x => by rw [mem x, hS, decide_eq_true_eq, sortU_mem]
    subst em
    exact q m _ (Ext.new S hp) (S.new hp) _ (rp_newL S hp (rpl_ints _))
  · cases e
/-! ### tuples of ints -/
def elT : Val → Option (List Int)
  | .d (.tuple ds) => intsOf ds
  | _ => none
def AtT (K : PySem.W.Frag) (P : Program) (w : World) (m : MM) (H : Hp) (D : Addr) (acc : List (List Int)) : Prop := ∃ L, H D = some (SetTO P w D L) ∧ (L.map (·.2)).Perm acc ∧ (∀ p ∈ L, FzT K m H p.1 (p.2.map V.int)) ∧ acc.Nodup
theorem FzT.at_ext {K m H} {D : Addr} {ψ φ : Heap → Prop} (hD : H D = some (.ext ψ)) {a : Addr} {xs : List V} (h : FzT K m H a xs) : FzT K m (upd H D (.ext φ)) a xs :=
  h.monoF ((Ext.refl m H).toExtF.at_ext hD)
theorem skT (K : PySem.W.Frag) (T : Tx) (P : Program) (w : World) : SKd (List Int) K T elT (AtT K P w) (paT K P w) (fun D => SetTO P w D []) where
  h0 := fun S hD => ⟨⟨[], upd_same, List.Perm.nil, (fun p hp => nomatch hp), List.nodup_nil⟩, _, rfl⟩
  ext := fun ⟨L, h, _⟩ => ⟨_, h⟩
  keep := fun E ⟨L, h, a, b, c⟩ => ⟨L, E.ext _ _ h, a, fun p hp => (b p hp).mono E, c⟩
  put := fun {m h H D acc y v e N} S r ee at_ hz q => by
    obtain ⟨L, hD, hL, ht, nd⟩ := at_
    unfold elT at ee
    split at ee
    · rename_i ds
      cases (show Rp K m H (.tuple ds) v from r) with
      | @tup a xs _ hf t =>
        have ed := intsOf_some ee
        rw [ed] at t
        have ex := rpl_ints_v t
        subst ex
        refine ⟨a, e, L, rfl, hf.sq, hD, fun p hp => (ht p hp).sq, by rw [← List.length_map (f := (·.2)), hL.length_eq]; exact hz, fun L' c1 c2 => q _ ?_⟩
        by_cases hm : e ∈ L.map (·.2)
        · rw [c1 hm]
          have ha : e ∈ acc := hL.mem_iff.mp hm
          refine ⟨L, upd_same, ?_, fun p hp => (ht p hp).at_ext hD, putE_nd nd⟩
          unfold putE
          rw [if_pos ha]
          exact hL
        · have pm := c2 hm
          have ha : e ∉ acc := fun z => hm (hL.mem_iff.mpr z)
          refine ⟨L', upd_same, ?_, fun p hp => ?_, putE_nd nd⟩
          · unfold putE
            rw [if_neg ha]
            refine (pm.map (·.2)).trans ?_
            rw [List.map_cons]
            exact ((List.Perm.cons e hL).trans (List.perm_append_singleton e acc).symm)
          · rcases List.mem_cons.mp (pm.mem_iff.mp hp) with rfl | hp
            · exact hf.at_ext hD
            · exact (ht p hp).at_ext hD
    · cases ee
/-- all of one length, from 1 on, each within 0 .. 63 -/
def evenT (acc : List (List Int)) : Bool := acc.all fun k => decide (k.length = (acc.headD [0]).length) && (decide (1 ≤ k.length) && k.all fun i => decide (0 ≤ i) && decide (i < 64))
def leL (a b : List Int) : Bool := decide (a ≤ b)
def sortT (acc : List (List Int)) : List (List Int) := KS.msF leL acc.length acc
def finT (acc : List (List Int)) : Option PyData := if acc.length < 64 ∧ evenT acc = true then some (.list ((sortT acc).map fun k => .tuple (k.map .int))) else none
theorem code_bd {B : Int} (hB : 1 ≤ B) : ∀ {x : List Int}, TS.Bd B x → 0 ≤ TS.code B x ∧ TS.code B x < B ^ x.length
  | [], _ => by
    show (0 : Int) ≤ 0 ∧ (0 : Int) < B ^ 0
    rw [Int.pow_zero]; omega
  | a :: x, h => by
    obtain ⟨h1, h2⟩ := h a List.mem_cons_self
    obtain ⟨i1, i2⟩ := code_bd hB (x := x) fun m hm => h m (List.mem_cons_of_mem _ hm)
    show 0 ≤ a * B ^ x.length + TS.code B x ∧ a * B ^ x.length + TS.code B x < B ^ (x.length + 1)
    have hp : 0 < B ^ x.length := Int.pow_pos (by omega)
    rw [Int.pow_succ]
    constructor
    · have := Int.mul_nonneg h1 (Int.le_of_lt hp)
      omega
    · have : a * B ^ x.length ≤ (B - 1) * B ^ x.length := Int.mul_le_mul_of_nonneg_right (by omega) (Int.le_of_lt hp)
      have e : (B - 1) * B ^ x.length = B ^ x.length * B - B ^ x.length := by rw [Int.sub_mul, Int.one_mul, Int.mul_comm]
      omega
theorem code_le {B : Int} (hB : 1 ≤ B) : ∀ {x y : List Int}, x.length = y.length → TS.Bd B x → TS.Bd B y → TS.code B x ≤ TS.code B y → x ≤ y
  | [], [], _, _, _, _ => List.le_refl _
  | [], _ :: _, h, _, _, _ => by cases h
  | _ :: _, [], h, _, _, _ => by cases h
  | a :: x, b :: y, hl, hx, hy, h => by
    have hl' : x.length = y.length := by simpa using hl
    have bx : TS.Bd B x := fun m hm => hx m (List.mem_cons_of_mem _ hm)
    have by' : TS.Bd B y := fun m hm => hy m (List.mem_cons_of_mem _ hm)
    obtain ⟨x1, x2⟩ := code_bd hB bx
    obtain ⟨y1, y2⟩ := code_bd hB by'
    have h : a * B ^ x.length + TS.code B x ≤ b * B ^ y.length + TS.code B y := h
    rw [← hl'] at h y2
    have hp : 0 < B ^ x.length := Int.pow_pos (by omega)
    rcases Int.lt_trichotomy a b with q | q | q
    · exact List.cons_le_cons_iff.mpr (.inl q)
    · subst q
      exact List.cons_le_cons_iff.mpr (.inr ⟨rfl, code_le hB hl' bx by' (by omega)⟩)
    · exfalso
      have : (b + 1) * B ^ x.length ≤ a * B ^ x.length := Int.mul_le_mul_of_nonneg_right (by omega) (Int.le_of_lt hp)
      rw [Int.add_mul, Int.one_mul] at this
      omega
theorem sortT_perm (acc : List (List Int)) : (sortT acc).Perm acc := by
  unfold sortT
  rw [KS.msF_eq _ _ _ (Nat.le_refl _)]
  exact List.mergeSort_perm _ _
theorem sortT_pw (acc : List (List Int)) : (sortT acc).Pairwise (· ≤ ·) := by
  unfold sortT
  rw [KS.msF_eq _ _ _ (Nat.le_refl _)]
  have := List.pairwise_mergeSort (le := leL) (fun a b c h1 h2 => decide_eq_true (List.le_trans (of_decide_eq_true h1) (of_decide_eq_true h2))) (fun a b => by
    rw [Bool.or_eq_true]
    exact (List.le_total a b).imp decide_eq_true decide_eq_true) acc
  exact this.imp fun h => of_decide_eq_true h
theorem rpl_tups {K : PySem.W.Frag} {m : MM} {H : Hp} : ∀ {L : List (Addr × List Int)}, (∀ p ∈ L, FzT K m H p.1 (p.2.map V.int)) → RpL K m H ((L.map (·.2)).map fun k => PyData.tuple (k.map .int)) (L.map fun q => V.ref q.1)
  | [], _ => .nil
  | p :: L, h => .cons (.tup (h p List.mem_cons_self) (rpl_ints p.2)) (rpl_tups fun q hq => h q (List.mem_cons_of_mem _ hq))
theorem finT_ok {K : PySem.W.Frag} {T : Tx} {P : Program} {w : World} {Q : VK} : ∀ m h H D acc d, Sim K T m h H → AtT K P w m H D acc → finT acc = some d → (∀ m' H', Ext m H m' H' → Sim K T m' h H' → ∀ v, RepV K m' H' (.d d) v → Q v H') → rSortedT K P w [.ref D] H Q := by
  intro m h H D acc d S ⟨L, hD, hL, ht, nd⟩ e q
  unfold finT at e
  split at e
  · rename_i hz
    cases e
    obtain ⟨hz, he⟩ := hz
    have key : ∀ k ∈ acc, k.length = (acc.headD [0]).length ∧ 1 ≤ k.length ∧ TS.Bd 64 k := fun k hk => by
      have := List.all_eq_true.mp he k hk
      simp only [Bool.and_eq_true, decide_eq_true_eq, List.all_eq_true] at this
      exact ⟨this.1, this.2.1, fun i hi => this.2.2 i hi⟩
    have hd1 : 1 ≤ (acc.headD [0]).length := by
      cases acc with
      | nil => exact Nat.le_refl _
      | cons k acc => exact (key k List.mem_cons_self).2.1
    have kL : ∀ p ∈ L, p.2.length = (acc.headD [0]).length ∧ TS.Bd 64 p.2 := fun p hp => by
      obtain ⟨a, _, b⟩ := key p.2 (hL.mem_iff.mp (List.mem_map.mpr ⟨p, hp, rfl⟩))
      exact ⟨a, b⟩
    refine ⟨D, L, (acc.headD [0]).length, 64, rfl, hD, fun p hp => (ht p hp).sq, hd1, kL, fun L' p pm nd' _ pw hp => ?_⟩
    have pw2 : (L'.map (·.2)).Pairwise (· ≤ ·) := by
      rw [List.pairwise_map]
      refine List.Pairwise.imp_of_mem (fun {a b} ha hb hle => ?_) pw
      obtain ⟨a1, a2⟩ := kL a (pm.mem_iff.mp ha)
      obtain ⟨b1, b2⟩ := kL b (pm.mem_iff.mp hb)
      exact code_le (by decide) (a1.trans b1.symm) a2 b2 hle
    have em : L'.map (·.2) = sortT acc := List.Perm.eq_of_pairwise (le := fun a b => a ≤ b) (fun a b _ _ h1 h2 => List.le_antisymm h1 h2) pw2 (sortT_pw acc) ((pm.map (·.2)).trans (hL.trans (sortT_perm acc).symm))
    have tt : ∀ q ∈ L', FzT K m H q.1 (q.2.map V.int) := fun q hq => ht q (pm.mem_iff.mp hq)
    rw [← em] at q
    exact q m _ (Ext.new S hp) (S.new hp) _ (rp_newL S hp (rpl_tups tt))
  · cases e
/-! ### the rules -/
section
variable {X : Cx} {T : Tx} {W : WX} {k : Nat} {x tg iter tg1 iter1 : Expr} {ifs ifs1 : List Expr} {pos p cpos : Pos} {ce : CE} {ct ct1 : CT} {ci ci1 : CI} {ns ns1 vs1 : List Nat} {g g1 : CG} {scope : Scope} {own : List (Str × Nat)}
theorem one_v {Q : VK} {te : TE} {r : List V → Hp → VK → Prop} {σ : L2.St} {H : Hp} (h : te σ H fun x H1 => r [x] H1 Q) : tCB r (tCons te tNil) σ H Q := h
theorem re_sortScI (C : Cok X W k) (sg : Gl X "sorted") (sm : X.mg "sorted" = none) (hi : RI X T W tg iter ci) (ok : BlkOk X.N X.env.scope scope own) (hns : ∀ i ∈ ns, i ∈ own.map (·.2)) (hns1 : ∀ i ∈ ns1, i ∈ vs1) (hv : ∀ i ∈ vs1, i ∈ own.map (·.2))
    (hg : ∀ (s : Shared) (H : Hp) (C : Addr) (cl : List (Str × Addr)) (fp : List Addr), RG (X.blk s H scope (compEnvC scope cl C X.env) fp) T tg ns g) (ht : ∀ (s : Shared) (H : Hp) (C : Addr) (cl : List (Str × Addr)) (fp : List Addr), RTs (X.blk s H scope (compEnvC scope cl C X.env) fp) T W0 ifs ct)
    (hi1 : ∀ (s : Shared) (H : Hp) (C : Addr) (cl : List (Str × Addr)) (fp : List Addr), RI (X.blk s H scope (compEnvC scope cl C X.env) fp) T W0 tg1 iter1 ci1)
    (hg1 : ∀ (s : Shared) (H : Hp) (C : Addr) (cl : List (Str × Addr)) (fp : List Addr), RG (X.blk s H scope (compEnvC scope cl C X.env) fp) T tg1 ns1 g1) (ht1 : ∀ (s : Shared) (H : Hp) (C : Addr) (cl : List (Str × Addr)) (fp : List Addr), RTs (X.blk s H scope (compEnvC scope cl C X.env) fp) T W0 ifs1 ct1)
    (hk : ∀ (s : Shared) (H : Hp) (C : Addr) (cl : List (Str × Addr)) (fp : List Addr), RE (X.blk s H scope (compEnvC scope cl C X.env) fp) T W0 x ce)
    (hs : ∀ x, foldedSetIterable iter X.env x = pure x := by intro _; rfl) (hs1 : ∀ env x, foldedSetIterable iter1 env x = pure x := by intro _ _; rfl)
    (he : starEach [.SetComp x [⟨tg, iter, ifs, 0⟩, ⟨tg1, iter1, ifs1, 0⟩] scope cpos] X.env = (false, eval (.SetComp x [⟨tg, iter, ifs, 0⟩, ⟨tg1, iter1, ifs1, 0⟩] scope cpos) X.env) :: starEach [] X.env := by rfl) :
    RE X T W (.Call (.Name "sorted" p) [.SetComp x [⟨tg, iter, ifs, 0⟩, ⟨tg1, iter1, ifs1, 0⟩] scope cpos] [] pos) (cSc2 elI finI ci (own.map (·.2)) g ct ci1 vs1 g1 ct1 ce) :=
  ⟨⟨fun pins s σ H Q I h => (pe_callB (cr_sortedSet C.calm) sg sm boot_sorted (pa_cons (pe_sc2 (pa := paI X.w) (u0 := fun D => SetO X.w D (fun _ => false) 0) C.calm C.nd hi.pi ok hv (fun s H C cl fp => (hg s H C cl fp).pg) (fun s H C cl fp => (ht s H C cl fp).pts) (fun s H C cl fp => (hi1 s H C cl fp).pi) (fun s H C cl fp => (hg1 s H C cl fp).pg) (fun s H C cl fp => (ht1 s H C cl fp).pts)
      (fun s H C cl fp => pp_set (hk s H C cl fp).pe fun D y u pins s2 σ2 H2 N I r h => paI_ok D y u pins s2 σ2 H2 N I r h) (fun H h hb => ob_I H h hb) hs hs1) pa_nil he) (by decide) (by decide) he rfl).run pins s σ H Q I (one_v (sc2_read (skI X.K T X.w) hns (hg s H 0 [] []).ns hns1 (hg1 s H 0 [] []).ns (fun m h H D acc d S a e q => finI_ok m h H D acc d S a e q) h))⟩⟩
theorem re_sortScT (C : Cok X W k) (sg : Gl X "sorted") (sm : X.mg "sorted" = none) (hi : RI X T W tg iter ci) (ok : BlkOk X.N X.env.scope scope own) (hns : ∀ i ∈ ns, i ∈ own.map (·.2)) (hns1 : ∀ i ∈ ns1, i ∈ vs1) (hv : ∀ i ∈ vs1, i ∈ own.map (·.2))
    (hg : ∀ (s : Shared) (H : Hp) (C : Addr) (cl : List (Str × Addr)) (fp : List Addr), RG (X.blk s H scope (compEnvC scope cl C X.env) fp) T tg ns g) (ht : ∀ (s : Shared) (H : Hp) (C : Addr) (cl : List (Str × Addr)) (fp : List Addr), RTs (X.blk s H scope (compEnvC scope cl C X.env) fp) T W0 ifs ct)
    (hi1 : ∀ (s : Shared) (H : Hp) (C : Addr) (cl : List (Str × Addr)) (fp : List Addr), RI (X.blk s H scope (compEnvC scope cl C X.env) fp) T W0 tg1 iter1 ci1)
    (hg1 : ∀ (s : Shared) (H : Hp) (C : Addr) (cl : List (Str × Addr)) (fp : List Addr), RG (X.blk s H scope (compEnvC scope cl C X.env) fp) T tg1 ns1 g1) (ht1 : ∀ (s : Shared) (H : Hp) (C : Addr) (cl : List (Str × Addr)) (fp : List Addr), RTs (X.blk s H scope (compEnvC scope cl C X.env) fp) T W0 ifs1 ct1)
    (hk : ∀ (s : Shared) (H : Hp) (C : Addr) (cl : List (Str × Addr)) (fp : List Addr), RE (X.blk s H scope (compEnvC scope cl C X.env) fp) T W0 x ce)
    (hs : ∀ x, foldedSetIterable iter X.env x = pure x := by intro _; rfl) (hs1 : ∀ env x, foldedSetIterable iter1 env x = pure x := by intro _ _; rfl)
    (he : starEach [.SetComp x [⟨tg, iter, ifs, 0⟩, ⟨tg1, iter1, ifs1, 0⟩] scope cpos] X.env = (false, eval (.SetComp x [⟨tg, iter, ifs, 0⟩, ⟨tg1, iter1, ifs1, 0⟩] scope cpos) X.env) :: starEach [] X.env := by rfl) :
    RE X T W (.Call (.Name "sorted" p) [.SetComp x [⟨tg, iter, ifs, 0⟩, ⟨tg1, iter1, ifs1, 0⟩] scope cpos] [] pos) (cSc2 elT finT ci (own.map (·.2)) g ct ci1 vs1 g1 ct1 ce) :=
  ⟨⟨fun pins s σ H Q I h => (pe_callB (cr_sortedT C.calm) sg sm boot_sorted (pa_cons (pe_sc2 (pa := paT X.K X.prog X.w) (u0 := fun D => SetTO X.prog X.w D []) C.calm C.nd hi.pi ok hv (fun s H C cl fp => (hg s H C cl fp).pg) (fun s H C cl fp => (ht s H C cl fp).pts) (fun s H C cl fp => (hi1 s H C cl fp).pi) (fun s H C cl fp => (hg1 s H C cl fp).pg) (fun s H C cl fp => (ht1 s H C cl fp).pts)
      (fun s H C' cl fp => pp_set (hk s H C' cl fp).pe fun D y u pins s2 σ2 H2 N I r h => paT_ok (X := X.blk s H scope (compEnvC scope cl C' X.env) fp) C.hu D y u pins s2 σ2 H2 N I r h) (fun H h hb => ob_T H h hb) hs hs1) pa_nil he) (by decide) (by decide) he rfl).run pins s σ H Q I (one_v (sc2_read (skT X.K T X.prog X.w) hns (hg s H 0 [] []).ns hns1 (hg1 s H 0 [] []).ns (fun m h H D acc d S a e q => finT_ok m h H D acc d S a e q) h))⟩⟩
end
end MV
/-! A dict made by a comprehension of one clause. -/
namespace MV
open PySem PySem.Spec PyProof.Rows L2
def tpDictP (tk tv : TE) : Addr → L2.St → Hp → (Hp → Prop) → Prop := fun D σ H N => tk σ H fun y H4 => tv σ H4 fun z H5 => ∃ H6, DPut H5 D y z H6 ∧ N H6
theorem pp_dictP {X : Cx} {kx vx : Expr} {tk tv : TE} (hu : X.A.units + 1 < cLine) (hk : PE X kx tk) (hv : PE X vx tv) : PP X (putDict kx vx) (tpDictP tk tv) := by
  intro D pins s σ H N I h
  unfold putDict
  refine wpAny_bind (thn (hk.run pins s σ H _ I h) fun u s1 ⟨y, H4, I4, ry, h4⟩ => ?_)
  refine wpAny_bind (wpAny_holding (thn (hv.run pins s1 σ H4 _ I4 h4) fun r s2 ⟨z, H5, I5, rz, H6, g, q⟩ => ?_))
  exact wpAny_bind (wpAny_standAt (wpAny_holding (d_dictSetP hu I5 g ry rz fun s' I' => ⟨_, I', q⟩)))
section
variable {X : Cx} {kx vx t0 i0 : Expr} {ifs0 : List Expr} {scope : Scope} {own : List (Str × Nat)} {wi : TI} {g : TG} {tt : TT} {tk tv : TE} {pos : Pos} {u0 : HO}
theorem pe_dc1 (hu : X.A.units + 1 < cLine) (hob : ∀ (H : Hp) (h : Heap), sysModules < h.objs.size → ObjOk X.prog X.w H (h.push { cls := .type "dict", data := .dict #[] }) h.objs.size u0) (hc : X.calm = true) (hN : X.N.Nodup) (hi : PI X t0 i0 wi) (ok : BlkOk X.N X.env.scope scope own)
    (hg : ∀ s H C cl fp, PG (X.blk s H scope (compEnvC scope cl C X.env) fp) t0 g) (ht : ∀ s H C cl fp, PTs (X.blk s H scope (compEnvC scope cl C X.env) fp) ifs0 tt)
    (hk : ∀ s H C cl fp, PE (X.blk s H scope (compEnvC scope cl C X.env) fp) kx tk) (hw : ∀ s H C cl fp, PE (X.blk s H scope (compEnvC scope cl C X.env) fp) vx tv)
    (hs : ∀ x, foldedSetIterable i0 X.env x = pure x := by intro _; rfl) :
    PE X (.DictComp kx vx [⟨t0, i0, ifs0, 0⟩] scope pos) (tCp1 (fun _ => u0) wi g tt (tpDictP tk tv) (own.map (·.2))) :=
  ⟨fun pins s σ H Q I h => by
    rw [arm_eval_DictComp]
    exact cp1_run (cp1_dict kx vx t0 i0 ifs0 scope pos) hc hN hi ok hg ht (fun s H C cl fp => pp_dictP (X := X.blk s H scope (compEnvC scope cl C X.env) fp) hu (hk s H C cl fp) (hw s H C cl fp)) hs (Ty := "dict") (data := .dict #[]) (fun h => wpAny_newObj_type h (by exact Nat.zero_le _)) hob pins s σ H Q I h⟩
theorem ps_setDc1 {i : Nat} {y : Str} {py spos : Pos} (hu : X.A.units + 1 < cLine) (hob : ∀ (H : Hp) (h : Heap), sysModules < h.objs.size → ObjOk X.prog X.w H (h.push { cls := .type "dict", data := .dict #[] }) h.objs.size u0) (hc : X.calm = true) (hN : X.N.Nodup) (hy : X.N[i]? = some y) (hyl : X.env.scope.names.lookup y = some .local)
    (hsw : swapsWith (.DictComp kx vx [⟨t0, i0, ifs0, 0⟩] scope pos) (some (.Name y py)) spos.line X.env = pure true) (hi : PI X t0 i0 wi) (ok : BlkOk X.N X.env.scope scope own)
    (hg : ∀ s H C cl fp, PG (X.blk s H scope (compEnvC scope cl C X.env) fp) t0 g) (ht : ∀ s H C cl fp, PTs (X.blk s H scope (compEnvC scope cl C X.env) fp) ifs0 tt)
    (hk : ∀ s H C cl fp, PE (X.blk s H scope (compEnvC scope cl C X.env) fp) kx tk) (hw : ∀ s H C cl fp, PE (X.blk s H scope (compEnvC scope cl C X.env) fp) vx tv)
    (hs : ∀ x, foldedSetIterable i0 X.env x = pure x := by intro _; rfl) :
    PS X (.Assign [.Name y py] (.DictComp kx vx [⟨t0, i0, ifs0, 0⟩] scope pos) spos) (tAsg (tCp1 (fun _ => u0) wi g tt (tpDictP tk tv) (own.map (·.2))) (gName i)) := by
  refine ⟨fun pins s σ H D I h => ?_⟩
  rw [exec_Assign_Name_used _ _ _ _ hsw]
  refine wpAny_bind (wpAny_standAt (wpAny_bind ?_))
  show wpAny _ X.A (do let _ ← comprehension (.DictComp kx vx [⟨t0, i0, ifs0, 0⟩] scope pos) scope X.env (firstIterPos [⟨t0, i0, ifs0, 0⟩] pos) newDict false (eval i0 X.env) (some (assign (.Name y py) X.env))) _ _ s
  exact wpAny_bind (thn (cp1_use (cp1_dict kx vx t0 i0 ifs0 scope pos) hc hN hy hyl hi ok hg ht (fun s H C cl fp => pp_dictP (X := X.blk s H scope (compEnvC scope cl C X.env) fp) hu (hk s H C cl fp) (hw s H C cl fp)) hs (Ty := "dict") (data := .dict #[]) (fun h => wpAny_newObj_type h (by exact Nat.zero_le _)) hob pins s σ H D.nx I h) fun _ s' hq => wpAny_pure (wpAny_pure hq))
end
/-! ### the code -/
def d1L (g : CG) (tt : CT) (ck cv : CE) (L : Nat) (σ : SA) : List Val → AH → Option AH
  | [], h => some h
  | x :: xs, h => match g x h with
    | none => none
    | some ups => match tt (setAll σ ups) h with
      | some (.ok false, h1) => d1L g tt ck cv L σ xs h1
      | some (.ok true, h1) => match ck (setAll σ ups) h1 with
        | some (.ok y, h2) => match cv (setAll σ ups) h2 with
          | some (.ok z, h3) => match setD (.ref L) y z h3 with
            | some h4 => d1L g tt ck cv L σ xs h4
            | none => none
          | _ => none
        | _ => none
      | _ => none
def cDc1 (c0 : Cell) (ci : CI) (own : List Nat) (g : CG) (ct : CT) (ck cv : CE) : CE := fun σ => bnd (ci σ) fun xs => lift fun h => (d1L g ct ck cv h.length (wipeA σ own) xs (h ++ [c0])).map fun h' => (.ref h.length, h')
section
variable {X : Cx} {T : Tx} {W : WX} {k : Nat} {kx vx tg iter : Expr} {ifs : List Expr} {pos p : Pos} {ck cv : CE} {ct : CT} {ci : CI} {ns : List Nat} {g : CG} {u0 : HO} {c0 : Cell}
theorem dc1_read (h0 : ∀ (m : MM) (H : Hp) (p : Addr), CellOk X.K (m ++ [some p]) (upd H p u0) c0 (some p)) {own : List (Str × Nat)} {σ : L2.St} {H : Hp} {Q : VK} (hns : ∀ i ∈ ns, i ∈ own.map (·.2)) (hn : ∀ x h ups, g x h = some ups → ups.map (·.1) = ns)
    (h : tE X T W (cDc1 c0 ci (own.map (·.2)) g ct ck cv) σ H Q) : tCp1 (fun _ => u0) (tI X T W ci) (tG X.K T g) (tT X T W0 ct) (tpDictP (tE X T W0 ck) (tE X T W0 cv)) (own.map (·.2)) σ H Q := by
  obtain ⟨m, hh, σa, S, RS, A⟩ := h
  refine ⟨m, hh, σa, S, RS, A.bind.mono fun m1 h1 H1 xs E1 S1 A1 J hJ D hD => ?_⟩
  obtain ⟨z, h9, e9, q9⟩ := A1.lifted
  obtain ⟨hE, eL, eE⟩ := Option.map_eq_some_iff.mp e9
  have RS1 : RepS X.K m1 H1 (wipeA σa (own.map (·.2))) (wipe σ (own.map (·.2))) := (RS.mono E1).wipe _
  have hm1 : h1.length = m1.length := S1.len
  have E2 : Ext m1 H1 (m1 ++ [some D]) (upd H1 D u0) := Ext.push S1 hD
  refine ⟨fun i mm H => mm = xs.length - i ∧ ∃ m h, Ext (m1 ++ [some D]) (upd H1 D u0) m H ∧ Sim X.K T m h H ∧ d1L g ct ck cv h1.length (wipeA σa (own.map (·.2))) (xs.drop i) h = some hE, ⟨_, rfl, m1 ++ [some D], h1 ++ [c0], Ext.refl _ _, S1.pushC hD (h0 m1 H1 D), by rw [List.drop_zero]; exact eL⟩, ?_⟩
  rintro i mm H2 ⟨rfl, m2, h2, E3, S2, e2⟩
  have hJ2 : ItOk X.K T (m1 ++ [some D]) (upd H1 D u0) xs J := hJ.mono E2
  by_cases hi : i < xs.length
  · refine .inr ⟨hJ2.go m2 h2 H2 i E3 S2 hi, fun H' => ∃ m h, Ext (m1 ++ [some D]) (upd H1 D u0) m H' ∧ Sim X.K T m h H' ∧ d1L g ct ck cv h1.length (wipeA σa (own.map (·.2))) (xs.drop (i + 1)) h = some hE, fun H' hN => ⟨xs.length - (i + 1), by omega, rfl, hN⟩, fun x H3 y => ?_⟩
    obtain ⟨xa, m3, ex, E4, S3, rx⟩ := hJ2.yld m2 h2 H2 i x H3 E3 S2 hi y
    have hd : xs.drop i = xa :: xs.drop (i + 1) := by
      obtain ⟨hi', e'⟩ := List.getElem?_eq_some_iff.mp ex
      rw [List.drop_eq_getElem_cons hi', e']
    rw [hd] at e2
    unfold d1L at e2
    cases hgx : g xa h2 with
    | none => rw [hgx] at e2; cases e2
    | some ups =>
      simp only [hgx] at e2
      refine ⟨m3, h2, xa, ups, S3, rx, hgx, fun ws hw => ⟨?_, m3, h2, setAll (wipeA σa (own.map (·.2))) ups, S3, ?_, ?_⟩⟩
      · rw [wipe_setAll ws _ fun w hw' => hns _ (by
          have : w.1 ∈ ws.map (·.1) := List.mem_map.mpr ⟨w, hw', rfl⟩
          rw [ups_fst hw, hn _ _ _ hgx] at this
          exact this), wipe_wipe σ _ fun u hu => hu]
      · exact (((RS1.mono E2).mono E3).mono E4).setAll hw
      · have RSW := (((RS1.mono E2).mono E3).mono E4).setAll hw
        cases ht : ct (setAll (wipeA σa (own.map (·.2))) ups) h2 with
        | none => simp only [ht] at e2; cases e2
        | some p5 =>
          obtain ⟨r5, h5⟩ := p5
          simp only [ht] at e2
          cases r5 with
          | exn _ _ => cases e2
          | ok bb =>
            refine ⟨_, _, rfl, fun m5 H5 E5 S5 b' rb => ?_⟩
            subst rb
            cases b' with
            | false =>
              rw [if_neg Bool.false_ne_true]
              exact ⟨m5, h5, (E3.trans E4).trans E5, S5, e2⟩
            | true =>
              rw [if_pos rfl]
              simp only at e2
              refine ⟨m5, h5, setAll (wipeA σa (own.map (·.2))) ups, S5, RSW.mono E5, ?_⟩
              cases ie : ck (setAll (wipeA σa (own.map (·.2))) ups) h5 with
              | none => simp only [ie] at e2; cases e2
              | some q6 =>
                obtain ⟨s6, h6⟩ := q6
                simp only [ie] at e2
                cases s6 with
                | exn _ _ => cases e2
                | ok y6 =>
                  refine ⟨_, _, rfl, fun m6 H6 E6 S6 w6 r6 => ?_⟩
                  simp only at e2
                  refine ⟨m6, h6, setAll (wipeA σa (own.map (·.2))) ups, S6, (RSW.mono E5).mono E6, ?_⟩
                  cases ie7 : cv (setAll (wipeA σa (own.map (·.2))) ups) h6 with
                  | none => simp only [ie7] at e2; cases e2
                  | some q7 =>
                    obtain ⟨s7, h7⟩ := q7
                    simp only [ie7] at e2
                    cases s7 with
                    | exn _ _ => cases e2
                    | ok z7 =>
                      refine ⟨_, _, rfl, fun m7 H7 E7 S7 w7 r7 => ?_⟩
                      simp only at e2
                      cases es : setD (.ref h1.length) y6 z7 h7 with
                      | none => simp only [es] at e2; cases e2
                      | some h8 =>
                        simp only [es] at e2
                        have FF : Ext (m1 ++ [some D]) (upd H1 D u0) m7 H7 := (((E3.trans E4).trans E5).trans E6).trans E7
                        have em : m7[h1.length]? = some (some D) := by
                          have some_cell : ∃ a, m7[h1.length]? = some (some a) := by
                            unfold setD at es
                            simp only at es
                            cases hc : h7[h1.length]? with
                            | none => simp only [hc] at es; cases es
                            | some c =>
                              obtain ⟨x, ex2, ok⟩ := Paired.at_ S7.cell hc
                              simp only [hc] at es
                              cases c with
                              | dK _ => cases ok with | dK _ _ => exact ⟨_, ex2⟩
                              | dT _ => cases ok with | dT _ _ => exact ⟨_, ex2⟩
                              | _ => cases es
                          obtain ⟨a, ea⟩ := some_cell
                          have := FF.at' h1.length a (by rw [List.length_append, hm1]; simp) ea
                          rw [List.getElem?_append_right (by omega), hm1] at this
                          have ed : D = a := by simpa using this
                          rw [ed]; exact ea
                        obtain ⟨H8, g8, E8, S8⟩ := put_of S7 em (r6.mono E7) r7 es
                        exact ⟨H8, g8, m7, h8, FF.trans E8, S8, e2⟩
  · refine .inl ⟨hJ2.stop m2 h2 H2 i E3 S2 (by omega), ?_⟩
    rw [List.drop_of_length_le (by omega)] at e2
    have e3 : h2 = hE := Option.some.inj e2
    subst e3
    cases eE
    refine q9 m2 H2 (E2.trans E3) S2 _ ⟨?_, fun a ea => ?_⟩
    · have := E3.len
      rw [List.length_append, List.length_singleton] at this
      omega
    · have := E3.at' h1.length a (by rw [List.length_append, hm1]; simp) ea
      rw [List.getElem?_append_right (by omega), hm1] at this
      simp at this
      rw [this]
theorem re_dc1 (hob : ∀ (H : Hp) (h : Heap), sysModules < h.objs.size → ObjOk X.prog X.w H (h.push { cls := .type "dict", data := .dict #[] }) h.objs.size u0) (h0 : ∀ (m : MM) (H : Hp) (p : Addr), CellOk X.K (m ++ [some p]) (upd H p u0) c0 (some p)) {scope : Scope} {own : List (Str × Nat)} (C : Cok X W k) (hi : RI X T W tg iter ci) (ok : BlkOk X.N X.env.scope scope own) (hns : ∀ i ∈ ns, i ∈ own.map (·.2))
    (hg : ∀ (s : Shared) (H : Hp) (C : Addr) (cl : List (Str × Addr)) (fp : List Addr), RG (X.blk s H scope (compEnvC scope cl C X.env) fp) T tg ns g) (ht : ∀ (s : Shared) (H : Hp) (C : Addr) (cl : List (Str × Addr)) (fp : List Addr), RTs (X.blk s H scope (compEnvC scope cl C X.env) fp) T W0 ifs ct)
    (hk : ∀ (s : Shared) (H : Hp) (C : Addr) (cl : List (Str × Addr)) (fp : List Addr), RE (X.blk s H scope (compEnvC scope cl C X.env) fp) T W0 kx ck) (hw : ∀ (s : Shared) (H : Hp) (C : Addr) (cl : List (Str × Addr)) (fp : List Addr), RE (X.blk s H scope (compEnvC scope cl C X.env) fp) T W0 vx cv)
    (hs : ∀ x, foldedSetIterable iter X.env x = pure x := by intro _; rfl) :
    RE X T W (.DictComp kx vx [⟨tg, iter, ifs, 0⟩] scope pos) (cDc1 c0 ci (own.map (·.2)) g ct ck cv) :=
  ⟨⟨fun pins s σ H Q I h => (pe_dc1 C.hu1 hob C.calm C.nd hi.pi ok (fun s H C cl fp => (hg s H C cl fp).pg) (fun s H C cl fp => (ht s H C cl fp).pts) (fun s H C cl fp => (hk s H C cl fp).pe) (fun s H C cl fp => (hw s H C cl fp).pe) hs).run pins s σ H Q I (dc1_read h0 hns (hg s H 0 [] []).ns h)⟩⟩
theorem re_dc1T {scope : Scope} {own : List (Str × Nat)} (C : Cok X W k) (hi : RI X T W tg iter ci) (ok : BlkOk X.N X.env.scope scope own) (hns : ∀ i ∈ ns, i ∈ own.map (·.2))
    (hg : ∀ (s : Shared) (H : Hp) (C : Addr) (cl : List (Str × Addr)) (fp : List Addr), RG (X.blk s H scope (compEnvC scope cl C X.env) fp) T tg ns g) (ht : ∀ (s : Shared) (H : Hp) (C : Addr) (cl : List (Str × Addr)) (fp : List Addr), RTs (X.blk s H scope (compEnvC scope cl C X.env) fp) T W0 ifs ct)
    (hk : ∀ (s : Shared) (H : Hp) (C : Addr) (cl : List (Str × Addr)) (fp : List Addr), RE (X.blk s H scope (compEnvC scope cl C X.env) fp) T W0 kx ck) (hw : ∀ (s : Shared) (H : Hp) (C : Addr) (cl : List (Str × Addr)) (fp : List Addr), RE (X.blk s H scope (compEnvC scope cl C X.env) fp) T W0 vx cv)
    (hs : ∀ x, foldedSetIterable iter X.env x = pure x := by intro _; rfl) :
    RE X T W (.DictComp kx vx [⟨tg, iter, ifs, 0⟩] scope pos) (cDc1 (.dT []) ci (own.map (·.2)) g ct ck cv) :=
  re_dc1 (u0 := .dT []) (fun H h hb => dt_empty h hb) (fun m H p => .dT upd_same .nil) C hi ok hns hg ht hk hw hs
theorem re_dc1K {scope : Scope} {own : List (Str × Nat)} (C : Cok X W k) (hi : RI X T W tg iter ci) (ok : BlkOk X.N X.env.scope scope own) (hns : ∀ i ∈ ns, i ∈ own.map (·.2))
    (hg : ∀ (s : Shared) (H : Hp) (C : Addr) (cl : List (Str × Addr)) (fp : List Addr), RG (X.blk s H scope (compEnvC scope cl C X.env) fp) T tg ns g) (ht : ∀ (s : Shared) (H : Hp) (C : Addr) (cl : List (Str × Addr)) (fp : List Addr), RTs (X.blk s H scope (compEnvC scope cl C X.env) fp) T W0 ifs ct)
    (hk : ∀ (s : Shared) (H : Hp) (C : Addr) (cl : List (Str × Addr)) (fp : List Addr), RE (X.blk s H scope (compEnvC scope cl C X.env) fp) T W0 kx ck) (hw : ∀ (s : Shared) (H : Hp) (C : Addr) (cl : List (Str × Addr)) (fp : List Addr), RE (X.blk s H scope (compEnvC scope cl C X.env) fp) T W0 vx cv)
    (hs : ∀ x, foldedSetIterable iter X.env x = pure x := by intro _; rfl) :
    RE X T W (.DictComp kx vx [⟨tg, iter, ifs, 0⟩] scope pos) (cDc1 (.dK []) ci (own.map (·.2)) g ct ck cv) :=
  re_dc1 (u0 := .dK []) (fun H h hb => dk_empty h hb) (fun m H p => .dK upd_same .nil) C hi ok hns hg ht hk hw hs
theorem sw_trueD1 {kx vx : Expr} {gs : List Comprehension} {scope : Scope} {pos py : Pos} {y : Str} {l : Nat} {env : Env} (hk : env.scope.kind = .function) (hy : env.scope.names.lookup y = some .local) (hl : (py.line == pos.line) = true)
    (ha : (scope.names.any fun (n, k) => n == y && (k == .local || k == .cell)) = false) : swapsWith (.DictComp kx vx gs scope pos) (some (.Name y py)) l env = pure true := sw_trueD hk hy hl ha
theorem rs_setDc1 {i : Nat} {y : Str} {py spos : Pos} {scope : Scope} {own : List (Str × Nat)} (hob : ∀ (H : Hp) (h : Heap), sysModules < h.objs.size → ObjOk X.prog X.w H (h.push { cls := .type "dict", data := .dict #[] }) h.objs.size u0) (h0 : ∀ (m : MM) (H : Hp) (p : Addr), CellOk X.K (m ++ [some p]) (upd H p u0) c0 (some p)) (C : Cok X W k) (hi : RI X T W tg iter ci) (ok : BlkOk X.N X.env.scope scope own) (hns : ∀ i ∈ ns, i ∈ own.map (·.2))
    (hg : ∀ (s : Shared) (H : Hp) (C : Addr) (cl : List (Str × Addr)) (fp : List Addr), RG (X.blk s H scope (compEnvC scope cl C X.env) fp) T tg ns g) (ht : ∀ (s : Shared) (H : Hp) (C : Addr) (cl : List (Str × Addr)) (fp : List Addr), RTs (X.blk s H scope (compEnvC scope cl C X.env) fp) T W0 ifs ct)
    (hk : ∀ (s : Shared) (H : Hp) (C : Addr) (cl : List (Str × Addr)) (fp : List Addr), RE (X.blk s H scope (compEnvC scope cl C X.env) fp) T W0 kx ck) (hw : ∀ (s : Shared) (H : Hp) (C : Addr) (cl : List (Str × Addr)) (fp : List Addr), RE (X.blk s H scope (compEnvC scope cl C X.env) fp) T W0 vx cv)
    (hy : X.N[i]? = some y := by rfl) (hyl : X.env.scope.names.lookup y = some .local := by rfl)
    (hsw : swapsWith (.DictComp kx vx [⟨tg, iter, ifs, 0⟩] scope pos) (some (.Name y py)) spos.line X.env = pure true := by exact sw_trueD rfl rfl rfl (by decide +kernel)) (hs : ∀ x, foldedSetIterable iter X.env x = pure x := by intro _; rfl) :
    RS X T W (.Assign [.Name y py] (.DictComp kx vx [⟨tg, iter, ifs, 0⟩] scope pos) spos) (sAsg (gN i) (cDc1 c0 ci (own.map (·.2)) g ct ck cv)) :=
  ⟨⟨fun pins s σ H D I h => (ps_setDc1 C.hu1 hob C.calm C.nd hy hyl hsw hi.pi ok (fun s H C cl fp => (hg s H C cl fp).pg) (fun s H C cl fp => (ht s H C cl fp).pts) (fun s H C cl fp => (hk s H C cl fp).pe) (fun s H C cl fp => (hw s H C cl fp).pe) hs).run pins s σ H D I (by
    refine dc1_read h0 hns (hg s H 0 [] []).ns (by_tE h fun m h1 H1 σa x v S RS r A => ?_)
    obtain ⟨f, h', e, q⟩ := A
    cases e
    exact q m H1 _ (Ext.refl _ _) S (RS.set i r))⟩⟩
theorem rs_setDc1T {i : Nat} {y : Str} {py spos : Pos} {scope : Scope} {own : List (Str × Nat)} (C : Cok X W k) (hi : RI X T W tg iter ci) (ok : BlkOk X.N X.env.scope scope own) (hns : ∀ i ∈ ns, i ∈ own.map (·.2))
    (hg : ∀ (s : Shared) (H : Hp) (C : Addr) (cl : List (Str × Addr)) (fp : List Addr), RG (X.blk s H scope (compEnvC scope cl C X.env) fp) T tg ns g) (ht : ∀ (s : Shared) (H : Hp) (C : Addr) (cl : List (Str × Addr)) (fp : List Addr), RTs (X.blk s H scope (compEnvC scope cl C X.env) fp) T W0 ifs ct)
    (hk : ∀ (s : Shared) (H : Hp) (C : Addr) (cl : List (Str × Addr)) (fp : List Addr), RE (X.blk s H scope (compEnvC scope cl C X.env) fp) T W0 kx ck) (hw : ∀ (s : Shared) (H : Hp) (C : Addr) (cl : List (Str × Addr)) (fp : List Addr), RE (X.blk s H scope (compEnvC scope cl C X.env) fp) T W0 vx cv)
    (hy : X.N[i]? = some y := by rfl) (hyl : X.env.scope.names.lookup y = some .local := by rfl)
    (hsw : swapsWith (.DictComp kx vx [⟨tg, iter, ifs, 0⟩] scope pos) (some (.Name y py)) spos.line X.env = pure true := by exact sw_trueD rfl rfl rfl (by decide +kernel)) (hs : ∀ x, foldedSetIterable iter X.env x = pure x := by intro _; rfl) :
    RS X T W (.Assign [.Name y py] (.DictComp kx vx [⟨tg, iter, ifs, 0⟩] scope pos) spos) (sAsg (gN i) (cDc1 (.dT []) ci (own.map (·.2)) g ct ck cv)) :=
  rs_setDc1 (u0 := .dT []) (fun H h hb => dt_empty h hb) (fun m H p => .dT upd_same .nil) C hi ok hns hg ht hk hw hy hyl hsw hs
end
end MV
/-! max(xs, default=0), gcd, reversed(range(..)), list(xs) that changes, the dict in a field -/
namespace MV
open PySem PySem.Spec PyProof.Rows L2 PySem.W
def fMaxD0 (dj : Int) : PyData → Option PyData
  | .list ds => match intsOf ds with
    | some [] => some (.int dj)
    | some (a :: l) => some (.int (maxF a l))
    | none => none
  | _ => none
section
variable {X : Cx} {T : Tx} {W : WX} {p pos kpos cpos : Pos} {e : Expr} {ce : CE}
theorem k_maxD0 (dj : Int) (hc : X.calm = true) (hu : X.A.units + 64 < cLine) : CallRK X (.builtin "max") [Str.ofString "default"] (fun vs zs H Q => zs = [.int dj] ∧ rA X.K T (g1 (fMaxD0 dj)) vs H Q) := by
  intro pins s σ H xs zs us ws Q I rx rz h
  obtain ⟨ez, m, h0, ys, z, h', S, rv, e, q⟩ := h
  subst ez
  obtain ⟨x, d, c, rfl, e1, e2, rfl, rfl⟩ := g1_some e
  obtain ⟨v, rfl, r1⟩ := paired1 rv
  obtain ⟨u, rfl, ru⟩ := vals1 rx
  obtain ⟨uz, rfl, ruz⟩ := vals1 rz
  obtain ⟨tz, rfl⟩ := ruz
  unfold fMaxD0 at e2
  split at e2
  · rename_i ds
    have key : ∀ ns : List Int, intsOf ds = some ns → c = (match ns with | [] => PyData.int dj | a :: l => .int (maxF a l)) → wpAny (model X.prog X.w) X.A (call (.builtin "max") [u] ([Str.ofString "default"].zip [Value.int dj tz])) (EP X pins σ Q) X.xe s := by
      intro ns hn ec
      obtain ⟨a, vs, rfl, hs, t⟩ := view_list S r1 e1
      have ed := intsOf_some hn
      subst ed
      cases ru
      obtain ⟨as, r⟩ := Dp.reads I (.list (ns.map .int)) (.ref a) (.ref a) (.lst hs (RpL.dp t)) rfl
      cases r with
      | list h1 h2 h3 h4 =>
        refine max_list_default (I.ok.hd hc) ⟨_, h1, h2, _, h3⟩ h4 ⟨fun x hx y hy => ?_, fun x hx => ?_⟩ ?_ (fun h0 h' tk hk => ?_) fun y ys i v h' tk bs exs hv rv hk => ?_
        · obtain ⟨i, _, rfl⟩ := List.mem_map.mp (show x ∈ ns.map PyData.int from hx)
          obtain ⟨j, _, rfl⟩ := List.mem_map.mp (show y ∈ ns.map PyData.int from hy)
          rfl
        · obtain ⟨i, _, rfl⟩ := List.mem_map.mp (show x ∈ ns.map PyData.int from hx)
          exact fun z => nomatch z
        · have := depth_ints ns
          show X.A.units + 1 + PyData.depthAll (ns.map .int) < cLine
          omega
        · have : ns = [] := by simpa using h0
          subst this
          subst ec
          exact ⟨.int dj, H, I.kept (t' := tk) hk, ⟨_, rfl⟩, q m H (Ext.refl _ _) S _ (.int _)⟩
        · cases ns with
          | nil => cases exs
          | cons b l =>
            have exs' : PyData.int b :: l.map PyData.int = y :: ys := exs
            cases exs'
            rw [maxD_ints] at rv
            cases rv
            subst ec
            exact ⟨.int _, H, I.kept (t' := tk) hk, ⟨_, rfl⟩, q m H (Ext.refl _ _) S _ (.int _)⟩
    split at e2
    · rename_i hn
      cases e2
      exact key [] hn rfl
    · rename_i a l hn
      cases e2
      exact key _ hn rfl
    · cases e2
  · cases e2
def cMaxD0 (dj : Int) (ce : CE) : CE := fun σ => bnd (ce σ) fun x => lift (g1 (fMaxD0 dj) [x])
theorem re_maxD0 {j} {dj : Int} (hc : X.calm = true) (hu : X.A.units + 64 < cLine) (hg : Gl X "max") (hm : X.mg "max" = none) (he : RE X T W e ce) (hse : starEach (e :: []) X.env = (false, eval e X.env) :: starEach [] X.env := by rfl)
    (hb : backTo pos (starEach (e :: []) X.env) = (false, eval e X.env) :: backTo pos (starEach [] X.env) := by rfl) (hpl : (backTo pos (starEach (e :: []) X.env)).any (·.1) = false := by rfl)
    (hall : (backToKw pos (keywordEach [⟨some "default", .Constant (.int dj) j cpos, kpos⟩] X.env)).all (·.1.isSome) = true := by rfl) (hnone : (backToKw pos (keywordEach [⟨some "default", .Constant (.int dj) j cpos, kpos⟩] X.env)).any (·.1.isNone) = false := by rfl) (hks : (backToKw pos (keywordEach [⟨some "default", .Constant (.int dj) j cpos, kpos⟩] X.env)).filterMap (·.1) = [Str.ofString "default"] := by rfl) :
    RE X T W (.Call (.Name "max" p) [e] [⟨some "default", .Constant (.int dj) j cpos, kpos⟩] pos) (cMaxD0 dj ce) :=
  ⟨PE.imp (pe_callBK (k_maxD0 (T := T) dj hc hu) hg hm (by first | rfl | decide +kernel) (pa_cons he.pe pa_nil hse) (pk_cons pe_int pk_nil) (by first | decide +kernel | decide) (by first | decide +kernel | decide) hb hpl hall hnone hks) fun σ H Q h => by
    refine tAny_bind h fun m h1 H1 σa x v S RS r A => ?_
    obtain ⟨z, h3, e, q⟩ := A.lifted
    exact ⟨rfl, m, h1, [x], z, h3, S, .cons r .nil, e, fun m' H' E S v rv => q m' H' E S v rv⟩⟩
end
end MV
namespace MV
open PySem PySem.Spec PyProof.Rows L2
section
variable {X : Cx} {T : Tx} {W : WX} {k : Nat} {e tg : Expr} {es : List Expr} {p p2 pos pos2 : Pos} {ce : CE} {ca : CA}
/-! ### list(xs), a list that will change -/
def gListN : GA := fun xs h => match xs with
  | [x] => match viewD x h with
    | some (.list ds) => if ds.length ≤ sizeLine then some (.ref h.length, h ++ [.lst (ds.map .d)]) else none
    | some (.tuple ds) => if ds.length ≤ sizeLine then some (.ref h.length, h ++ [.lst (ds.map .d)]) else none
    | _ => none
  | _ => none
theorem k_listN : CallR X (.type "list") (rA X.K T gListN) := by
  intro pins s σ H vs us Q I r hh
  obtain ⟨m, h0, xs, z, h', S, rv, e, q⟩ := hh
  have fin : ∀ {l : Addr} {ds : List PyData} {ws : List V}, RpL X.K m H ds ws → H l = none → (z, h') = (Val.ref h0.length, h0 ++ [.lst (ds.map .d)]) → Q (.ref l) (upd H l (.lst ws)) := fun {l ds ws} t hl ez => by
    cases ez
    refine q (m ++ [some l]) _ (Ext.push S hl) (S.push hl (RpL.vals t)) _ ⟨by rw [List.length_append, S.len]; exact Nat.lt_succ_self _, fun a ea => ?_⟩
    rw [S.len, List.getElem?_append_right (Nat.le_refl _), Nat.sub_self] at ea
    cases ea
    rfl
  unfold gListN at e
  split at e
  · rename_i x
    obtain ⟨v, rfl, r1⟩ := paired1 rv
    obtain ⟨u, rfl, ru⟩ := vals1 r
    split at e
    · rename_i ds hv
      split at e
      · obtain ⟨a, ws, rfl, hs, t⟩ := view_list S r1 hv
        exact call_list_of pins s σ H [_] [u] Q I (.cons ru .nil) ⟨a, ws, rfl, .inl hs, fun l hl => fin t hl (Option.some.inj e).symm⟩
      · cases e
    · rename_i ds hv
      split at e
      · obtain ⟨a, ws, rfl, hs, t⟩ := view_tup S r1 hv
        exact call_list_of pins s σ H [_] [u] Q I (.cons ru .nil) ⟨a, ws, rfl, .inr hs.sq, fun l hl => fin t hl (Option.some.inj e).symm⟩
      · cases e
    · cases e
  · cases e
/-! ### gcd -/
def gGcd : GA := fun xs h => match xs with
  | [.d (.int a), .d (.int b)] => some (.d (.int ((Nat.gcd a.natAbs b.natAbs : Nat) : Int)), h)
  | _ => none
theorem k_gcd : CallR X (.builtin "math.gcd") (rA X.K T gGcd) := by
  intro pins s σ H vs us Q I r hh
  obtain ⟨m, h0, xs, z, h', S, rv, e, q⟩ := hh
  unfold gGcd at e
  split at e
  · cases e
    cases rv with
    | cons r1 rr => cases rr with
      | cons r2 rr =>
        cases rr
        rename_i a b _ _
        cases (show Rp X.K m H (.int a) _ from r1)
        cases (show Rp X.K m H (.int b) _ from r2)
        exact cr_gcd pins s σ H _ us Q I r ⟨a, b, rfl, q m H (Ext.refl _ _) S _ (.int _)⟩
  · cases e
theorem re_gcd (hg : Gl X "gcd") (hm : X.mg "gcd" = some (.builtin "math.gcd")) (ha : RA X T W (e :: es) ca) (he : starEach (e :: es) X.env = (false, eval e X.env) :: starEach es X.env := by rfl) (hpl : (backTo pos (starEach es X.env)).any (·.1) = false := by rfl) :
    RE X T W (.Call (.Name "gcd" p) (e :: es) [] pos) (cAp gGcd ca) :=
  ⟨PE.imp (pe_callBfun (k_gcd (T := T)) hg hm ha.pa (by decide) he hpl) fun σ H Q h => by
    obtain ⟨m, h0, σa, S, RS, A⟩ := tE_ap h
    exact ⟨m, h0, σa, S, RS, A.mono fun m1 h1 H1 xs E S1 q vs rv => q vs rv⟩⟩
/-! ### for i in reversed(range(n)) -/
def iRevR1 (x : Val) : O (List Val) := fun h => match x with
  | .d (.int j) => if -(2 ^ 62) ≤ j ∧ j < 2 ^ 62 then some ((intC (((j.toNat : Nat) : Int) - 1) (-1) j.toNat).map .d, h) else none
  | _ => none
theorem ri_revR1 (hg : Gl X "reversed") (hm : X.mg "reversed" = none) (hg2 : Gl X "range") (hm2 : X.mg "range" = none) (he : RE X T W e ce) (hs : starEach [.Call (.Name "range" p2) [e] [] pos2] X.env = (false, eval (.Call (.Name "range" p2) [e] [] pos2) X.env) :: starEach [] X.env := by rfl)
    (na : starEach [e] X.env = (false, eval e X.env) :: starEach [] X.env := by rfl) : RI X T W tg (.Call (.Name "reversed" p) [.Call (.Name "range" p2) [e] [] pos2] [] pos) (cIter iRevR1 ce) := ⟨PI.imp (pi_revR hg hm (prg_1 hg2 hm2 he.pe na) hs) fun σ H R ⟨m, h, σa, S, RS, A⟩ => ⟨m, h, σa, S, RS, A.bind.mono fun m1 h1 H1 x E S1 A1 v r => by
  obtain ⟨xs, h2, e, q⟩ := A1.lifted
  unfold iRevR1 at e
  split at e
  · rename_i j
    split at e
    · rename_i hj
      cases e
      cases (show Rp X.K m1 H1 (.int j) v from r)
      have e0 : (j - 0).toNat = j.toNat := by rw [Int.sub_zero]
      refine ⟨j, rfl, ?_⟩
      refine ⟨by omega, by omega, hj.1, hj.2, ?_⟩
      rw [e0, Int.zero_add]
      exact q m1 H1 (Ext.refl _ _) S1 _ itC
    · cases e
  · cases e⟩⟩
end
/-! ### the dict in a field -/
def pFld (i : Nat) (cls f : Str) : LP := fun σ h => match σ[i]? with
  | some (some (.ref l)) => match h[l]? with
    | some (.ins c fs) => if c = cls then (match fs.lookup f with
      | some (.ref l') => some l'
      | _ => none) else none
    | _ => none
  | _ => none
end MV
/-! x in d, x not in d as tests -/
namespace MV
open PySem PySem.Spec PyProof.Rows L2 PySem.W
section
variable {X : Cx} {T : Tx} {W : WX} {pos : Pos} {i o : Expr} {ci co : CE}
theorem din_core {σ : L2.St} {H : Hp} {Q : VK} (h : tE X T W (cOp gDIn ci co) σ H Q) : tDIn (tE X T W ci) (tE X T W co) σ H Q := by
  refine tAny_bind h fun m h1 H1 σa x v S RS r A => ?_
  refine ⟨m, h1, σa, S, RS, A.bind.mono fun m2 h2 H2 y E2 S2 A2 w ry => ?_⟩
  obtain ⟨z, h3, e, q⟩ := A2.lifted
  unfold gDIn at e
  obtain ⟨r0, er, ez⟩ := Option.map_eq_some_iff.mp e
  obtain ⟨a, rv, ev, g, hr⟩ := dget_of S2 ry (r.mono E2) er
  cases ez
  refine ⟨a, rv, ev, g, q m2 H2 (Ext.refl _ _) S2 _ ?_⟩
  rcases hr with ⟨rfl, rfl⟩ | ⟨x', w', rfl, rfl, _⟩
  · exact .bl _
  · exact .bl _
theorem dnotin_core {σ : L2.St} {H : Hp} {Q : VK} (h : tE X T W (cOp gDNotIn ci co) σ H Q) : tDNotIn (tE X T W ci) (tE X T W co) σ H Q := by
  refine tAny_bind h fun m h1 H1 σa x v S RS r A => ?_
  refine ⟨m, h1, σa, S, RS, A.bind.mono fun m2 h2 H2 y E2 S2 A2 w ry => ?_⟩
  obtain ⟨z, h3, e, q⟩ := A2.lifted
  unfold gDNotIn at e
  obtain ⟨r0, er, ez⟩ := Option.map_eq_some_iff.mp e
  obtain ⟨a, rv, ev, g, hr⟩ := dget_of S2 ry (r.mono E2) er
  cases ez
  refine ⟨a, rv, ev, g, q m2 H2 (Ext.refl _ _) S2 _ ?_⟩
  rcases hr with ⟨rfl, rfl⟩ | ⟨x', w', rfl, rfl, _⟩
  · exact .bl _
  · exact .bl _
theorem rt_din (hu : X.A.units + 1 < cLine) (hi : RE X T W i ci) (ho : RE X T W o co) (h1 : behindInMarks .In o = false := by rfl) : RT X T W (.Compare i [.In] [o] pos) (cTest (cOp gDIn ci co)) :=
  ⟨PT.imp (pt_cmp (pc_din hu hi.pe ho.pe) h1) fun _ _ _ h => din_core (tT_test h)⟩
theorem rt_dnotin (hu : X.A.units + 1 < cLine) (hi : RE X T W i ci) (ho : RE X T W o co) (h1 : behindInMarks .NotIn o = false := by rfl) : RT X T W (.Compare i [.NotIn] [o] pos) (cTest (cOp gDNotIn ci co)) :=
  ⟨PT.imp (pt_cmp (pc_dnotin hu hi.pe ho.pe) h1) fun _ _ _ h => dnotin_core (tT_test h)⟩
end
end MV
/-! the law's end where the top imports a name -/
namespace MV
open PySem PySem.Spec PyProof.Rows L2 PySem.W
theorem law_atE {ex : PySem.W.Frag → Bool} {l : PySem.W.OpenLaw} {w : World} {K : PySem.W.Frag} {mg : Str → Option Value} {fa : Addr} {h : Heap} {fas : List He.Fa} {fn : List He.DefD} {tf : List He.Defn} {c : List Val → M Val} {k : Nat} {st : Stmt} {fd : FuncData}
    (S : He.SaysX fas fn [] tf ex w h K) (KX : K.In h) (hmg : mg "law" = some (.ref fa)) (g : mg "law" = some (.ref (He.ga K "law")))
    (D : FunD K "law" "law" (defArgs st) (defBody st) (defScope st) [] [] (He.ga K "law") fd)
    (hb : ∀ (kV doc pm : Value) (an : Option Addr) (cdv ct : Value) (us : List Value), us.length = ["script"].length → bindArgs (PySem.W.fnOf "law" "law" (defArgs st) (defBody st) (defScope st) .none kV doc pm an cdv ct) ⟨us, []⟩ = pure ((["script"] : List Str).zip us))
    (F : ∀ (base : Heap) (T : Tx), K.In base → base.Ns mainGlobals mg → (∀ p ∈ tf, GxR.TabB base mg (He.cT K p).1 (He.cT K p).2 ∧ (He.cT K p).2 ∈ T.tabs) → FO l.prog w K T mg base k "law" ["script"] c)
    (math : ∀ ns : List Int, ns.length ≤ 63 → ∃ h', c [.fl (ns.map .int)] [] = some (.ok (.d (.bool true)), h')) : LamX.LawAtS l w K (L2.CX l.prog w) k 63 "script" mg fa h := by
  have efa : fa = He.ga K "law" := by
    have z := hmg.symm.trans g
    exact Value.ref.inj (Option.some.inj z)
  subst efa
  obtain ⟨oc, od, dV, kV, doc, pm, an, cdv, ct, osl, e, lk, _⟩ := id D.ex
  have hfd := fdOf_eq lk
  refine ⟨fdOf K "law", tf.map (He.cT K), spF K ⟨(tf.map (He.cT K)).map (·.2), fun _ _ _ _ _ _ => False⟩ 1 c, fun p hp => ?_, fun p hp => ?_, fun p hp => ?_, fun s u => ?_, fun H a ns hl _ hC hS => ?_, fun base hB hN hT => ?_⟩
  · obtain ⟨q, hq, eq⟩ := List.mem_map.mp hp
    rw [← eq]
    exact S.empty q hq
  · obtain ⟨q, hq, eq⟩ := List.mem_map.mp hp
    rw [← eq]
    exact S.out q hq
  · obtain ⟨q, hq, eq⟩ := List.mem_map.mp hp
    rw [← eq]
    exact PySem.W.codeHd_of_K KX (S.hd q hq)
  · rw [hfd]
    exact FunD.bindsA (ps := ["script"]) D hb s [u] rfl
  · exact law_spT (cs := tf.map (He.cT K)) rfl math hl hC hS
  · refine F base ⟨(tf.map (He.cT K)).map (·.2), fun _ _ _ _ _ _ => False⟩ hB hN fun p hp => ?_
    have m : He.cT K p ∈ tf.map (He.cT K) := List.mem_map.mpr ⟨p, hp, rfl⟩
    have t := hT _ m
    exact ⟨⟨t.code, t.bm, t.gP⟩, List.mem_map.mpr ⟨_, m, rfl⟩⟩
end MV
/-! a list that changes is walked: it is locked for that time -/
namespace MV
open PySem PySem.Spec PyProof.Rows L2
section
variable {K : PySem.W.Frag} {T : Tx} {m : MM} {h : AH} {H : Hp}
theorem cell_lL {l : Nat} {xs} (S : Sim K T m h H) (e : h[l]? = some (.lL xs)) : ∃ a od ws, m[l]? = some (some a) ∧ H a = some (.frz od (.lst ws)) ∧ RepVs K m H xs ws := by
  obtain ⟨y, e1, ok⟩ := Paired.at_ S.cell e
  cases ok with
  | lL ha hr => exact ⟨_, _, _, e1, ha, hr⟩
theorem cell_L {l : Nat} {xs} (S : Sim K T m h H) (e : h[l]? = some (.lst xs)) : ∃ a ws, m[l]? = some (some a) ∧ H a = some (.lst ws) ∧ RepVs K m H xs ws := by
  obtain ⟨y, e1, ok⟩ := Paired.at_ S.cell e
  cases ok with
  | lst ha hr => exact ⟨_, _, e1, ha, hr⟩
theorem lockL_ok {l : Nat} {a : Addr} {kvs ws} (od : Obj) (S : Sim K T m h H) (em : m[l]? = some (some a)) (ha : H a = some (.lst ws)) (hr : RepVs K m H kvs ws) :
    Ext m H m (upd H a (.frz od (.lst ws))) ∧ Sim K T m (h.set l (.lL kvs)) (upd H a (.frz od (.lst ws))) := by
  have E : Ext m H m (upd H a (.frz od (.lst ws))) := Ext.store em _ ⟨_, ha, (fun _ _ z => nomatch z), (fun _ z => nomatch z)⟩
  exact ⟨E, S.store em (.lL upd_same (RepVs.mono E hr))⟩
theorem unlockL_ok {l : Nat} {a : Addr} {ws} {od : Obj} (S : Sim K T m h H) (em : m[l]? = some (some a)) (ha : H a = some (.lst ws)) {m' : MM} {h' : AH} {H' : Hp} (E' : Ext m (upd H a (.frz od (.lst ws))) m' H') (S' : Sim K T m' h' H') {kvs'} (e : h'[l]? = some (.lL kvs')) :
    H' a = some (.frz od (.lst ws)) ∧ Ext m H m' (upd H' a (.lst ws)) ∧ Ext0 m' H' m' (upd H' a (.lst ws)) ∧ Sim K T m' (h'.set l (.lst kvs')) (upd H' a (.lst ws)) := by
  have hd : H' a = some (.frz od (.lst ws)) := E'.frz a od _ upd_same
  obtain ⟨a', od', ws', em', ha', hr'⟩ := cell_lL S' e
  have hl : l < m.length := (List.getElem?_eq_some_iff.mp em).1
  have ea : a' = a := by
    have := E'.at' l a' hl em'
    rw [em] at this
    cases this; rfl
  subst ea
  rw [hd] at ha'
  cases ha'
  have E2 : Ext0 m' H' m' (upd H' a' (.lst ws)) := Ext0.store em' _
  have E1 : Ext m H m (upd H a' (.frz od (.lst ws))) := Ext.store em _ ⟨_, ha, (fun _ _ z => nomatch z), (fun _ z => nomatch z)⟩
  refine ⟨hd, ⟨⟨(E1.toExt0.trans E'.toExt0).trans E2, fun b od2 u eb => ?_⟩, fun b φ eb => ?_⟩, E2, S'.store em' (.lst upd_same (RepVs.mono0 E2 hr'))⟩
  · have nb : b ≠ a' := fun z => by subst z; rw [ha] at eb; cases eb
    rw [upd_ne nb]
    exact (E1.trans E').frz b od2 u eb
  · have nb : b ≠ a' := fun z => by subst z; rw [ha] at eb; cases eb
    rw [upd_ne nb]
    exact (E1.trans E').ext b φ eb
end
/-- the statement runs while the dict is locked -/
def sLockL (p : LP) (cs : CS) : CS := fun σ h => match p σ h with
  | some l => match h[l]? with
    | some (.lst kvs) => match cs σ (h.set l (.lL kvs)) with
      | some (.ex σ' n fs, h') => some (.ex σ' n fs, h')
      | some (f, h') => match h'[l]? with
        | some (.lL kvs') => some (f, h'.set l (.lst kvs'))
        | _ => none
      | none => none
    | _ => none
  | none => none
section
variable {X : Cx} {T : Tx} {W : WX} {st : Stmt} {cs : CS} {e tg : Expr} {ce : CE}
theorem rs_lockL (p : LP) (hs : RS X T W st cs) : RS X T W st (sLockL p cs) := ⟨PS.imp (ps_lock hs.ps) fun D σ H ⟨m, h0, σa, S, RS, fl, h', ee, q⟩ => by
  unfold sLockL at ee
  cases hp : p σa h0 with
  | none => rw [hp] at ee; cases ee
  | some l =>
    rw [hp] at ee
    simp only at ee
    cases hl : h0[l]? with
    | none => rw [hl] at ee; cases ee
    | some cell =>
      rw [hl] at ee
      cases cell with
      | lst kvs =>
        simp only at ee
        obtain ⟨a, ws, em, ha, hr⟩ := cell_L S hl
        refine ⟨a, .lst ws, ha, True.intro, fun od => ?_⟩
        obtain ⟨E1, S1⟩ := lockL_ok od S em ha hr
        refine ⟨m, _, σa, S1, RS.mono E1, ?_⟩
        cases hc : cs σa (h0.set l (.lL kvs)) with
        | none => rw [hc] at ee; cases ee
        | some pr =>
          obtain ⟨f1, h1⟩ := pr
          rw [hc] at ee
          refine ⟨f1, h1, rfl, ?_⟩
          cases f1 with
          | ex σ1 n fs => cases ee; exact fun m' H' σ' cl d E' S' RS' z => q m' H' σ' cl d (E1.trans E') S' RS' z
          | nx σ1 =>
            simp only at ee
            split at ee
            · rename_i kvs' h1l
              cases ee
              intro m' H' σ' E' S' RS'
              obtain ⟨hd, E2, E3, S2⟩ := unlockL_ok S em ha E' S' h1l
              exact ⟨hd, q m' _ σ' E2 S2 (RS'.mono0 E3)⟩
            · cases ee
          | bk σ1 =>
            simp only at ee
            split at ee
            · rename_i kvs' h1l
              cases ee
              intro m' H' σ' E' S' RS'
              obtain ⟨hd, E2, E3, S2⟩ := unlockL_ok S em ha E' S' h1l
              exact ⟨hd, q m' _ σ' E2 S2 (RS'.mono0 E3)⟩
            · cases ee
          | ct σ1 =>
            simp only at ee
            split at ee
            · rename_i kvs' h1l
              cases ee
              intro m' H' σ' E' S' RS'
              obtain ⟨hd, E2, E3, S2⟩ := unlockL_ok S em ha E' S' h1l
              exact ⟨hd, q m' _ σ' E2 S2 (RS'.mono0 E3)⟩
            · cases ee
          | rt v1 =>
            simp only at ee
            split at ee
            · rename_i kvs' h1l
              cases ee
              intro m' H' v E' S' RV'
              obtain ⟨hd, E2, E3, S2⟩ := unlockL_ok S em ha E' S' h1l
              exact ⟨hd, q m' _ v E2 S2 (RV'.mono0 E3)⟩
            · cases ee
      | _ => simp only at ee; cases ee⟩
end
section
variable {X : Cx} {T : Tx} {W : WX} {e tg : Expr} {ce : CE}
/-- .. an expression -/
def cLockL (p : LP) (ce : CE) : CE := fun σ h => match p σ h with
  | some l => match h[l]? with
    | some (.lst kvs) => match ce σ (h.set l (.lL kvs)) with
      | some (.exn n fs, h') => some (.exn n fs, h')
      | some (.ok x, h') => match h'[l]? with
        | some (.lL kvs') => some (.ok x, h'.set l (.lst kvs'))
        | _ => none
      | none => none
    | _ => none
  | none => none
theorem re_lockL (p : LP) (he : RE X T W e ce) : RE X T W e (cLockL p ce) := ⟨PE.imp (pe_lock he.pe) fun σ H Q ⟨m, h0, σa, S, RS, r, h', ee, q⟩ => by
  unfold cLockL at ee
  cases hp : p σa h0 with
  | none => rw [hp] at ee; cases ee
  | some l =>
    rw [hp] at ee
    simp only at ee
    cases hl : h0[l]? with
    | none => rw [hl] at ee; cases ee
    | some cell =>
      rw [hl] at ee
      cases cell with
      | lst kvs =>
        simp only at ee
        obtain ⟨a, ws, em, ha, hr⟩ := cell_L S hl
        refine ⟨a, .lst ws, ha, True.intro, fun od => ?_⟩
        obtain ⟨E1, S1⟩ := lockL_ok od S em ha hr
        refine ⟨m, _, σa, S1, RS.mono E1, ?_⟩
        cases hc : ce σa (h0.set l (.lL kvs)) with
        | none => rw [hc] at ee; cases ee
        | some pr =>
          obtain ⟨f1, h1⟩ := pr
          rw [hc] at ee
          refine ⟨f1, h1, rfl, ?_⟩
          cases f1 with
          | exn n fs => cases ee; exact fun m' H' cl d E' S' z => q m' H' cl d (E1.trans E') S' z
          | ok v1 =>
            simp only at ee
            split at ee
            · rename_i kvs' h1l
              cases ee
              intro m' H' E' S' v RV'
              obtain ⟨hd, E2, E3, S2⟩ := unlockL_ok S em ha E' S' h1l
              exact ⟨hd, q m' _ E2 S2 v (RV'.mono0 E3)⟩
            · cases ee
      | _ => simp only at ee; cases ee⟩
end
end MV
/-! pure code: min(xs, default=None); [..] * n as an own list -/
namespace MP
open PySem MV
theorem qMinDN {a : CE} {pa : Px} (ha : QV a pa) : QE (cMinDN a) (pAp1 fMinDN pa) := ⟨fun R e => by
  obtain ⟨x, e1, e⟩ := bd_some e
  obtain ⟨v, z1, w1⟩ := ha.d R e1
  unfold cMinDN
  rw [bnd_ok z1]
  exact lift_ok (g1_ok w1 e)⟩
def pNewR (i : Nat) (p q : Px) : PS → Option PF := fun s => bd (p s) fun x => bd (q s) fun y => match x, y with
  | .list ds, .int k => if (-(2 ^ 63) ≤ k ∧ k < 2 ^ 63) ∧ ds.length * k.toNat ≤ sizeLine then some (.nx (s.set i (.c (List.replicate k.toNat ds).flatten))) else none
  | _, _ => none
theorem qNewR {i : Nat} {a b : CE} {pa pb : Px} (ha : QE a pa) (hb : QE b pb) : QS (sAsg (gN i) (cOp gRepN a b)) (pNewR i pa pb) := ⟨fun {n s σ h f} R e => by
  obtain ⟨x, e1, e⟩ := bd_some e
  obtain ⟨y, e2, e⟩ := bd_some e
  split at e
  · rename_i ds k _
    split at e
    · rename_i hz
      cases e
      refine ⟨_, _, asg_n (x := .ref h.length) (h' := h ++ [.lst ((List.replicate k.toNat ds).flatten.map .d)]) ?_, R.newC i _, take_app R.nh _⟩
      unfold cOp
      rw [bnd_ok (ha.ok R e1), bnd_ok (hb.ok R e2)]
      refine lift_ok ?_
      unfold gRepN
      simp only [viewM, viewD]
      rw [if_pos hz]
    · cases e
  · cases e⟩
end MP
namespace MK
open PySem PySem.Spec PyProof.Rows L2 MV
structure Facts (K : PySem.W.Frag) (mg : Str → Option Value) (base : Heap) (T : Tx) : Prop where
  d_is_within : Dn K mg "is_within" (tS 14) ["value", "low", "high"]
  d_is_pair : Dn K mg "is_pair" (tS 15) ["value"]
  d_is_ascending : Dn K mg "is_ascending" (tS 16) ["value", "many"]
  d_are_tablets : Dn K mg "are_tablets" (tS 17) ["value", "texts"]
  d_wrong_part : Dn K mg "wrong_part" (tS 18) ["value"]
  d_check_library : Dn K mg "check_library" (tS 19) ["library"]
  d_check_most : Dn K mg "check_most" (tS 20) ["most"]
  d_check_game : Dn K mg "check_game" (tS 21) ["library", "most"]
  d_check_number : Dn K mg "check_number" (tS 22) ["number", "low", "high"]
  d_check_counts : Dn K mg "check_counts" (tS 23) ["texts", "tablets"]
  d_check_tablet : Dn K mg "check_tablet" (tS 24) ["number", "many"]
  d_is_writing : Dn K mg "is_writing" (tS 25) ["value", "number", "many", "most"]
  d_is_day : Dn K mg "is_day" (tS 26) ["value", "many", "most"]
  d_check_days : Dn K mg "check_days" (tS 27) ["days", "many", "most"]
  d_mask_of : Dn K mg "mask_of" (tS 29) ["tablet"]
  d_tablet_of : Dn K mg "tablet_of" (tS 30) ["mask"]
  d_masks_of : Dn K mg "masks_of" (tS 31) ["library"]
  d_sum_at : Dn K mg "sum_at" (tS 32) ["masks", "numbers"]
  d_all_sums : Dn K mg "all_sums" (tS 33) ["masks"]
  d_rank_of : Dn K mg "rank_of" (tS 34) ["masks"]
  d_keep_all : Dn K mg "keep_all" (tS 35) ["masks", "texts"]
  d_without : Dn K mg "without" (tS 36) ["masks", "number"]
  d_choices : Dn K mg "choices" (tS 37) ["numbers", "most"]
  d_spanned : Dn K mg "spanned" (tS 38) ["library"]
  d_rank : Dn K mg "rank" (tS 39) ["library"]
  d_keeps : Dn K mg "keeps" (tS 40) ["library"]
  d_after : Dn K mg "after" (tS 41) ["library", "most", "days"]
  d_lost_on : Dn K mg "lost_on" (tS 42) ["library", "most", "days"]
  d_state_of : Dn K mg "state_of" (tS 44) ["masks"]
  d_all_rests : Dn K mg "all_rests" (tS 45) ["state", "melts"]
  d_sums_of_few : Dn K mg "sums_of_few" (tS 46) ["masks", "most"]
  d_states_behind : Dn K mg "states_behind" (tS 47) ["rest", "most", "goal", "melts"]
  d_Play_d_u__init_u_ : Dk K ("Play", some "__init__") "__init__" "Play.__init__" (tM 48 0) ["self", "starts", "most", "goal", "melts"]
  d_Play_d_is_lost : Dk K ("Play", some "is_lost") "is_lost" "Play.is_lost" (tM 48 2) ["self", "rest", "lost"]
  d_Play_d_is_losing : Dk K ("Play", some "is_losing") "is_losing" "Play.is_losing" (tM 48 3) ["self", "state", "doomed"]
  d_Play_d_newly_lost : Dk K ("Play", some "newly_lost") "newly_lost" "Play.newly_lost" (tM 48 4) ["self", "lost"]
  d_days_lost : Dn K mg "days_lost" (tS 49) ["play"]
  d_is_tame : Dn K mg "is_tame" (tS 51) ["masks", "most", "number"]
  d_is_ring : Dn K mg "is_ring" (tS 52) ["masks", "row"]
  d_are_scheme : Dn K mg "are_scheme" (tS 53) ["masks", "texts", "most"]
  d_every_tablet : Dn K mg "every_tablet" (tS 54) ["texts"]
  d_sorted_rows : Dn K mg "sorted_rows" (tS 55) ["kinds", "many"]
  d_least_tablets : Dn K mg "least_tablets" (tS 56) ["texts", "most"]
  d_tame : Dn K mg "tame" (tS 57) ["library", "most"]
  d_rings : Dn K mg "rings" (tS 58) ["library", "most"]
  d_is_scheme : Dn K mg "is_scheme" (tS 59) ["library", "most"]
  d_can_be : Dn K mg "can_be" (tS 60) ["texts", "tablets", "most"]
  d_schemes : Dn K mg "schemes" (tS 61) ["texts", "tablets", "most"]
  d_count_schemes : Dn K mg "count_schemes" (tS 62) ["texts", "tablets", "most"]
  d_fewest_tablets : Dn K mg "fewest_tablets" (tS 63) ["texts", "most"]
  d_play_of : Dn K mg "play_of" (tS 65) ["library", "most", "melts"]
  d_best_rows : Dn K mg "best_rows" (tS 66) ["lost", "masks", "most", "number"]
  d_soonest_loss : Dn K mg "soonest_loss" (tS 67) ["library", "most", "melts"]
  d_lost_within : Dn K mg "lost_within" (tS 68) ["library", "most"]
  d_kept_for_ever : Dn K mg "kept_for_ever" (tS 69) ["library", "most"]
  d_good_writings : Dn K mg "good_writings" (tS 70) ["library", "most", "number"]
  d_is_lost_within : Dn K mg "is_lost_within" (tS 71) ["play", "lost", "rest", "days"]
  d_soonest_lost : Dn K mg "soonest_lost" (tS 72) ["play", "lost", "masks", "days"]
  d_downfall : Dn K mg "downfall" (tS 73) ["library", "most"]
  d_is_rank_kept : Dn K mg "is_rank_kept" (tS 74) ["masks", "most", "goal"]
  d_rank_kept : Dn K mg "rank_kept" (tS 75) ["library", "most"]
  d_kept_additions : Dn K mg "kept_additions" (tS 76) ["library", "most", "many"]
  d_additions : Dn K mg "additions" (tS 77) ["library", "most"]
  d_lowest : Dn K mg "lowest" (tS 80) ["part", "whole"]
  d_a_day_longer : Dn K mg "a_day_longer" (tS 81) ["play", "kept"]
  d_best_chance : Dn K mg "best_chance" (tS 82) ["library", "most", "days"]
  d_idle_chance : Dn K mg "idle_chance" (tS 83) ["library", "days"]
  d__law_taken : Dn K mg "_law_taken" (tS 85) ["row", "many"]
  d_law : Dn K mg "law" (tS 86) ["script"]
  c_Play : Cls K (He.ga K "Play")
  n_Play_rests : NoAttr K (He.ga K "Play") "rests"
  n_Play_states : NoAttr K (He.ga K "Play") "states"
  m_Play_is_losing : Meth K (He.ga K "Play") "is_losing" (He.ma K (He.ga K "Play") "is_losing")
  m_Play_is_lost : Meth K (He.ga K "Play") "is_lost" (He.ma K (He.ga K "Play") "is_lost")
  m_Play_newly_lost : Meth K (He.ga K "Play") "newly_lost" (He.ma K (He.ga K "Play") "newly_lost")
  k_Play : Mk K (He.ga K "Play") (He.ma K (He.ga K "Play") "__init__")
  g_Play : mg "Play" = some (.ref (He.ga K "Play"))
  g_gcd : mg "gcd" = some (.builtin "math.gcd")
  b_all : mg "all" = none
  b_any : mg "any" = none
  b_bool : mg "bool" = none
  b_enumerate : mg "enumerate" = none
  b_int : mg "int" = none
  b_isinstance : mg "isinstance" = none
  b_len : mg "len" = none
  b_list : mg "list" = none
  b_max : mg "max" = none
  b_min : mg "min" = none
  b_range : mg "range" = none
  b_reversed : mg "reversed" = none
  b_sorted : mg "sorted" = none
  b_sum : mg "sum" = none
  b_tuple : mg "tuple" = none
  b_zip : mg "zip" = none
  i_MOST_CHANCE_DAYS : GInt mg "MOST_CHANCE_DAYS" 30
  i_MOST_DAYS : GInt mg "MOST_DAYS" 60
  i_MOST_TABLETS : GInt mg "MOST_TABLETS" 6
  i_MOST_TEXTS : GInt mg "MOST_TEXTS" 3
  i_MOST_WRITTEN_FROM : GInt mg "MOST_WRITTEN_FROM" 3
  t_Play_d_is_losing : TabsAt K mg base T ("Play", some "is_losing")
  t_Play_d_is_lost : TabsAt K mg base T ("Play", some "is_lost")
  t_are_scheme : TabsOk K mg base T "are_scheme"
  t_are_tablets : TabsOk K mg base T "are_tablets"
  t_is_lost_within : TabsOk K mg base T "is_lost_within"
  t_is_ring : TabsOk K mg base T "is_ring"
  t_is_tame : TabsOk K mg base T "is_tame"
section
variable {P : Program} {w : World} {K : PySem.W.Frag} {T : Tx} {mg : Str → Option Value} {base : Heap}
abbrev N_is_within : List Str := ["value", "low", "high"]
theorem sc_is_within : FnScope N_is_within ["value", "low", "high"] (defScope (tS 14)) := ⟨rfl, rfl, rfl, by decide +kernel, rfl, by decide +kernel, by decide +kernel⟩
def c_is_within : List Val → M Val := cDef 3 (sRet (cAndV (cIsi ["int"] (cVar 0)) (cAndV (cNotV (cIsi ["bool"] (cVar 0))) (cChain (gD dLe) (gD dLe) (cVar 1) (cVar 0) (cVar 2)))))
theorem ok_is_within (A : Facts K mg base T) : FO P w K T mg base 1 "is_within" ["value", "low", "high"] c_is_within :=
  fo (k := 0) A.d_is_within sc_is_within fun _ _ _ _ _ C => rss_one (rs_ret (re_and (re_isi (re_var 0) rfl A.b_isinstance rfl A.b_int b_int) (re_and (re_not (re_isi (re_var 0) rfl A.b_isinstance rfl A.b_bool b_bool)) (re_one (re_chain o_le o_le (re_var 1) (re_var 0) (re_var 2))))))
abbrev N_is_pair : List Str := ["value"]
theorem sc_is_pair : FnScope N_is_pair ["value"] (defScope (tS 15)) := ⟨rfl, rfl, rfl, by decide +kernel, rfl, by decide +kernel, by decide +kernel⟩
def c_is_pair : List Val → M Val := cDef 1 (sRet (cAndV (cIsi ["tuple"] (cVar 0)) (cOp (gD dEq) (cAp (g1 fLen) (cCons (cVar 0) (cNil))) (cK (.int 2)))))
theorem ok_is_pair (A : Facts K mg base T) : FO P w K T mg base 1 "is_pair" ["value"] c_is_pair :=
  fo (k := 0) A.d_is_pair sc_is_pair fun _ _ _ _ _ C => rss_one (rs_ret (re_and (re_isi (re_var 0) rfl A.b_isinstance rfl A.b_tuple b_tuple) (re_one (re_cmp (o_eq C.h64) (re_callB k_len rfl A.b_len b_len (ra_cons (re_var 0) (ra_nil))) (re_int)))))
abbrev N_is_ascending : List Str := ["value", "many", "low", "number"]
theorem sc_is_ascending : FnScope N_is_ascending ["value", "many"] (defScope (tS 16)) := ⟨rfl, rfl, rfl, by decide +kernel, rfl, by decide +kernel, by decide +kernel⟩
def c_is_ascending : List Val → M Val := cDef 4 (sSeq (sIf (cNot (cTru (cIsi ["tuple"] (cVar 0)))) (sRet (cK (.bool false))) (sNil)) (sSeq (sAsg (gN 2) (cK (.int 0))) (sSeq (sFor (cIter iData (cVar 0)) (gN 3) (sSeq (sIf (cNot (cTru (cCall 3 c_is_within (cCons (cVar 3) (cCons (cVar 2) (cCons (cOp (gD dSub) (cVar 1) (cK (.int 1))) (cNil))))))) (sRet (cK (.bool false))) (sNil)) (sAsg (gN 2) (cOp (gDM dAdd) (cVar 3) (cK (.int 1)))))) (sRet (cK (.bool true))))))
theorem ok_is_ascending (A : Facts K mg base T) : FO P w K T mg base 2 "is_ascending" ["value", "many"] c_is_ascending :=
  fo (k := 1) A.d_is_ascending sc_is_ascending fun _ _ _ _ _ C => rss_cons (rs_if (rt_not (rt_tru (re_isi (re_var 0) rfl A.b_isinstance rfl A.b_tuple b_tuple))) (rss_one (rs_ret (re_bl))) (rss_nil))
      (rss_cons (rs_set (i := 2) C.nd (re_int))
      (rss_cons (rs_for C (ri_seq (re_var 0)) (rg_name (i := 3) C.nd) (rss_cons (rs_if (rt_not (rt_tru (re_call A.d_is_within.df (ok_is_within A) C rfl (ra_cons (re_var 3) (ra_cons (re_var 2) (ra_cons (re_op o_sub (re_var 1) (re_int)) (ra_nil))))))) (rss_one (rs_ret (re_bl))) (rss_nil))
      (rss_one (rs_set (i := 2) C.nd (re_op o_add (re_var 3) (re_int))))))
      (rss_one (rs_ret (re_bl)))))
abbrev N_are_tablets : List Str := ["value", "texts", "tablet"]
theorem sc_are_tablets : FnScope N_are_tablets ["value", "texts"] (defScope (tS 17)) := ⟨rfl, rfl, rfl, by decide +kernel, rfl, by decide +kernel, by decide +kernel⟩
def c_are_tablets : List Val → M Val := cDef 3 (sSeq (sIf (cOr (cNot (cTru (cIsi ["tuple"] (cVar 0)))) (cNot (cTest (cChain (gD dLe) (gD dLe) (cK (.int 1)) (cAp (g1 fLen) (cCons (cVar 0) (cNil))) (cK (.int 6)))))) (sRet (cK (.bool false))) (sNil)) (sRet (cGx false (cIter iData (cVar 0)) [2] (gN 2) cYes (cCall 2 c_is_ascending (cCons (cVar 2) (cCons (cVar 1) (cNil)))))))
theorem ok_are_tablets (A : Facts K mg base T) : FO P w K T mg base 4 "are_tablets" ["value", "texts"] c_are_tablets :=
  fo (k := 3) A.d_are_tablets sc_are_tablets fun _ _ _ _ _ C => rss_cons (rs_if (RW.rt (rw_or (rt_not (rt_tru (re_isi (re_var 0) rfl A.b_isinstance rfl A.b_tuple b_tuple))) (rw_or1 (rt_not (rt_chain o_le o_le (re_int) (re_callB k_len rfl A.b_len b_len (ra_cons (re_var 0) (ra_nil))) (re_gint rfl A.i_MOST_TABLETS)))))) (rss_one (rs_ret (re_bl))) (rss_nil))
      (rss_one (rs_ret (re_all (own := [("tablet", 2)]) C rfl A.b_all (tbOk A.t_are_tablets) (gnOk_by (N := N_are_tablets) (sc := defScope (tS 17)) (by decide +kernel)) (by decide) (ri_seq (re_var 0)) (fun _ _ _ _ _ _ _ => rg_name (i := 2) C.nd) (fun _ _ _ _ _ _ _ => rts_nil) (fun _ _ _ _ _ _ _ C1 => re_call A.d_is_ascending.df (ok_is_ascending A) C1 rfl (ra_cons (re_var 2) (ra_cons (re_var 1) (ra_nil)))))))
abbrev N_wrong_part : List Str := ["value", "texts", "tablets"]
theorem sc_wrong_part : FnScope N_wrong_part ["value"] (defScope (tS 18)) := ⟨rfl, rfl, rfl, by decide +kernel, rfl, by decide +kernel, by decide +kernel⟩
def c_wrong_part : List Val → M Val := cDef 3 (sSeq (sIf (cNot (cTru (cCall 1 c_is_pair (cCons (cVar 0) (cNil))))) (sRet (cK (.str "library"))) (sNil)) (sSeq (sAsg (gTupT [gN 1, gN 2]) (cVar 0)) (sSeq (sIf (cNot (cTru (cCall 3 c_is_within (cCons (cVar 1) (cCons (cK (.int 1)) (cCons (cK (.int 3)) (cNil))))))) (sRet (cK (.str "texts"))) (sNil)) (sSeq (sIf (cNot (cTru (cCall 2 c_are_tablets (cCons (cVar 2) (cCons (cVar 1) (cNil)))))) (sRet (cK (.str "tablets"))) (sNil)) (sRet (cK .none))))))
theorem ok_wrong_part (A : Facts K mg base T) : FO P w K T mg base 5 "wrong_part" ["value"] c_wrong_part :=
  fo (k := 4) A.d_wrong_part sc_wrong_part fun _ _ _ _ _ C => rss_cons (rs_if (rt_not (rt_tru (re_call A.d_is_pair.df (ok_is_pair A) C rfl (ra_cons (re_var 0) (ra_nil))))) (rss_one (rs_ret (re_str))) (rss_nil))
      (rss_cons (rs_asg (re_var 0) (rg_tup C.calm (rgs_cons (rg_name (i := 1) C.nd) (rgs_cons (rg_name (i := 2) C.nd) (rgs_nil)))))
      (rss_cons (rs_if (rt_not (rt_tru (re_call A.d_is_within.df (ok_is_within A) C rfl (ra_cons (re_var 1) (ra_cons (re_int) (ra_cons (re_gint rfl A.i_MOST_TEXTS) (ra_nil))))))) (rss_one (rs_ret (re_str))) (rss_nil))
      (rss_cons (rs_if (rt_not (rt_tru (re_call A.d_are_tablets.df (ok_are_tablets A) C rfl (ra_cons (re_var 2) (ra_cons (re_var 1) (ra_nil)))))) (rss_one (rs_ret (re_str))) (rss_nil))
      (rss_one (rs_ret (re_non))))))
abbrev N_check_library : List Str := ["library", "part"]
theorem sc_check_library : FnScope N_check_library ["library"] (defScope (tS 19)) := ⟨rfl, rfl, rfl, by decide +kernel, rfl, by decide +kernel, by decide +kernel⟩
def c_check_library : List Val → M Val := cDef 2 (sSeq (sAsg (gN 1) (cCall 1 c_wrong_part (cCons (cVar 0) (cNil)))) (sIf (cTest (cIsN false (cVar 1))) (sNever) (sNil)))
theorem ok_check_library (A : Facts K mg base T) : FO P w K T mg base 6 "check_library" ["library"] c_check_library :=
  fo (k := 5) A.d_check_library sc_check_library fun _ _ _ _ _ C => rss_cons (rs_set (i := 1) C.nd (re_call A.d_wrong_part.df (ok_wrong_part A) C rfl (ra_cons (re_var 0) (ra_nil))))
      (rss_one (rs_if (rt_notN (re_var 1)) (rss_never) (rss_nil)))
abbrev N_check_most : List Str := ["most"]
theorem sc_check_most : FnScope N_check_most ["most"] (defScope (tS 20)) := ⟨rfl, rfl, rfl, by decide +kernel, rfl, by decide +kernel, by decide +kernel⟩
def c_check_most : List Val → M Val := cDef 1 (sIf (cNot (cTru (cCall 3 c_is_within (cCons (cVar 0) (cCons (cK (.int 1)) (cCons (cK (.int 3)) (cNil))))))) (sNever) (sNil))
theorem ok_check_most (A : Facts K mg base T) : FO P w K T mg base 2 "check_most" ["most"] c_check_most :=
  fo (k := 1) A.d_check_most sc_check_most fun _ _ _ _ _ C => rss_one (rs_if (rt_not (rt_tru (re_call A.d_is_within.df (ok_is_within A) C rfl (ra_cons (re_var 0) (ra_cons (re_int) (ra_cons (re_gint rfl A.i_MOST_WRITTEN_FROM) (ra_nil))))))) (rss_never) (rss_nil))
abbrev N_check_game : List Str := ["library", "most"]
theorem sc_check_game : FnScope N_check_game ["library", "most"] (defScope (tS 21)) := ⟨rfl, rfl, rfl, by decide +kernel, rfl, by decide +kernel, by decide +kernel⟩
def c_check_game : List Val → M Val := cDef 2 (sSeq (sDrop (cCall 1 c_check_library (cCons (cVar 0) (cNil)))) (sDrop (cCall 1 c_check_most (cCons (cVar 1) (cNil)))))
theorem ok_check_game (A : Facts K mg base T) : FO P w K T mg base 7 "check_game" ["library", "most"] c_check_game :=
  fo (k := 6) A.d_check_game sc_check_game fun _ _ _ _ _ C => rss_cons (rs_expr (re_call A.d_check_library.df (ok_check_library A) C rfl (ra_cons (re_var 0) (ra_nil))))
      (rss_one (rs_expr (re_call A.d_check_most.df (ok_check_most A) C rfl (ra_cons (re_var 1) (ra_nil)))))
abbrev N_check_number : List Str := ["number", "low", "high"]
theorem sc_check_number : FnScope N_check_number ["number", "low", "high"] (defScope (tS 22)) := ⟨rfl, rfl, rfl, by decide +kernel, rfl, by decide +kernel, by decide +kernel⟩
def c_check_number : List Val → M Val := cDef 3 (sIf (cNot (cTru (cCall 3 c_is_within (cCons (cVar 0) (cCons (cVar 1) (cCons (cVar 2) (cNil))))))) (sNever) (sNil))
theorem ok_check_number (A : Facts K mg base T) : FO P w K T mg base 2 "check_number" ["number", "low", "high"] c_check_number :=
  fo (k := 1) A.d_check_number sc_check_number fun _ _ _ _ _ C => rss_one (rs_if (rt_not (rt_tru (re_call A.d_is_within.df (ok_is_within A) C rfl (ra_cons (re_var 0) (ra_cons (re_var 1) (ra_cons (re_var 2) (ra_nil))))))) (rss_never) (rss_nil))
abbrev N_check_counts : List Str := ["texts", "tablets"]
theorem sc_check_counts : FnScope N_check_counts ["texts", "tablets"] (defScope (tS 23)) := ⟨rfl, rfl, rfl, by decide +kernel, rfl, by decide +kernel, by decide +kernel⟩
def c_check_counts : List Val → M Val := cDef 2 (sSeq (sDrop (cCall 3 c_check_number (cCons (cVar 0) (cCons (cK (.int 1)) (cCons (cK (.int 3)) (cNil)))))) (sDrop (cCall 3 c_check_number (cCons (cVar 1) (cCons (cK (.int 1)) (cCons (cK (.int 6)) (cNil)))))))
theorem ok_check_counts (A : Facts K mg base T) : FO P w K T mg base 3 "check_counts" ["texts", "tablets"] c_check_counts :=
  fo (k := 2) A.d_check_counts sc_check_counts fun _ _ _ _ _ C => rss_cons (rs_expr (re_call A.d_check_number.df (ok_check_number A) C rfl (ra_cons (re_var 0) (ra_cons (re_int) (ra_cons (re_gint rfl A.i_MOST_TEXTS) (ra_nil))))))
      (rss_one (rs_expr (re_call A.d_check_number.df (ok_check_number A) C rfl (ra_cons (re_var 1) (ra_cons (re_int) (ra_cons (re_gint rfl A.i_MOST_TABLETS) (ra_nil)))))))
abbrev N_check_tablet : List Str := ["number", "many"]
theorem sc_check_tablet : FnScope N_check_tablet ["number", "many"] (defScope (tS 24)) := ⟨rfl, rfl, rfl, by decide +kernel, rfl, by decide +kernel, by decide +kernel⟩
def c_check_tablet : List Val → M Val := cDef 2 (sIf (cNot (cTru (cCall 3 c_is_within (cCons (cVar 0) (cCons (cK (.int 0)) (cCons (cOp (gD dSub) (cVar 1) (cK (.int 1))) (cNil))))))) (sNever) (sNil))
theorem ok_check_tablet (A : Facts K mg base T) : FO P w K T mg base 2 "check_tablet" ["number", "many"] c_check_tablet :=
  fo (k := 1) A.d_check_tablet sc_check_tablet fun _ _ _ _ _ C => rss_one (rs_if (rt_not (rt_tru (re_call A.d_is_within.df (ok_is_within A) C rfl (ra_cons (re_var 0) (ra_cons (re_int) (ra_cons (re_op o_sub (re_var 1) (re_int)) (ra_nil))))))) (rss_never) (rss_nil))
abbrev N_is_writing : List Str := ["value", "number", "many", "most"]
theorem sc_is_writing : FnScope N_is_writing ["value", "number", "many", "most"] (defScope (tS 25)) := ⟨rfl, rfl, rfl, by decide +kernel, rfl, by decide +kernel, by decide +kernel⟩
def c_is_writing : List Val → M Val := cDef 4 (sRet (cAndV (cCall 2 c_is_ascending (cCons (cVar 0) (cCons (cVar 2) (cNil)))) (cAndV (cOp (gD dLe) (cAp (g1 fLen) (cCons (cVar 0) (cNil))) (cVar 3)) (cOp (gD (dIn true)) (cVar 1) (cVar 0)))))
theorem ok_is_writing (A : Facts K mg base T) : FO P w K T mg base 3 "is_writing" ["value", "number", "many", "most"] c_is_writing :=
  fo (k := 2) A.d_is_writing sc_is_writing fun _ _ _ _ _ C => rss_one (rs_ret (re_and (re_call A.d_is_ascending.df (ok_is_ascending A) C rfl (ra_cons (re_var 0) (ra_cons (re_var 2) (ra_nil)))) (re_and (re_cmp o_le (re_callB k_len rfl A.b_len b_len (ra_cons (re_var 0) (ra_nil))) (re_var 3)) (re_one (re_cmp (o_notIn C.h65) (re_var 1) (re_var 0))))))
abbrev N_is_day : List Str := ["value", "many", "most", "number", "others"]
theorem sc_is_day : FnScope N_is_day ["value", "many", "most"] (defScope (tS 26)) := ⟨rfl, rfl, rfl, by decide +kernel, rfl, by decide +kernel, by decide +kernel⟩
def c_is_day : List Val → M Val := cDef 5 (sSeq (sIf (cNot (cTru (cCall 1 c_is_pair (cCons (cVar 0) (cNil))))) (sRet (cK (.bool false))) (sNil)) (sSeq (sAsg (gTupT [gN 3, gN 4]) (cVar 0)) (sRet (cAndV (cCall 3 c_is_within (cCons (cVar 3) (cCons (cK (.int 0)) (cCons (cOp (gD dSub) (cVar 1) (cK (.int 1))) (cNil))))) (cCall 4 c_is_writing (cCons (cVar 4) (cCons (cVar 3) (cCons (cVar 1) (cCons (cVar 2) (cNil))))))))))
theorem ok_is_day (A : Facts K mg base T) : FO P w K T mg base 4 "is_day" ["value", "many", "most"] c_is_day :=
  fo (k := 3) A.d_is_day sc_is_day fun _ _ _ _ _ C => rss_cons (rs_if (rt_not (rt_tru (re_call A.d_is_pair.df (ok_is_pair A) C rfl (ra_cons (re_var 0) (ra_nil))))) (rss_one (rs_ret (re_bl))) (rss_nil))
      (rss_cons (rs_asg (re_var 0) (rg_tup C.calm (rgs_cons (rg_name (i := 3) C.nd) (rgs_cons (rg_name (i := 4) C.nd) (rgs_nil)))))
      (rss_one (rs_ret (re_and (re_call A.d_is_within.df (ok_is_within A) C rfl (ra_cons (re_var 3) (ra_cons (re_int) (ra_cons (re_op o_sub (re_var 1) (re_int)) (ra_nil))))) (re_one (re_call A.d_is_writing.df (ok_is_writing A) C rfl (ra_cons (re_var 4) (ra_cons (re_var 3) (ra_cons (re_var 1) (ra_cons (re_var 2) (ra_nil)))))))))))
abbrev N_check_days : List Str := ["days", "many", "most", "index", "day"]
theorem sc_check_days : FnScope N_check_days ["days", "many", "most"] (defScope (tS 27)) := ⟨rfl, rfl, rfl, by decide +kernel, rfl, by decide +kernel, by decide +kernel⟩
def c_check_days : List Val → M Val := cDef 5 (sSeq (sIf (cOr (cNot (cTru (cIsi ["tuple"] (cVar 0)))) (cTest (cOp (gD dGt) (cAp (g1 fLen) (cCons (cVar 0) (cNil))) (cK (.int 60))))) (sNever) (sNil)) (sFor (cIterA iEnumF (cCons (cVar 0) (cNil))) (gTupT [gN 3, gN 4]) (sIf (cNot (cTru (cCall 3 c_is_day (cCons (cVar 4) (cCons (cVar 1) (cCons (cVar 2) (cNil))))))) (sNever) (sNil))))
theorem ok_check_days (A : Facts K mg base T) : FO P w K T mg base 5 "check_days" ["days", "many", "most"] c_check_days :=
  fo (k := 4) A.d_check_days sc_check_days fun _ _ _ _ _ C => rss_cons (rs_if (RW.rt (rw_or (rt_not (rt_tru (re_isi (re_var 0) rfl A.b_isinstance rfl A.b_tuple b_tuple))) (rw_or1 (rt_cmp o_gt (re_callB k_len rfl A.b_len b_len (ra_cons (re_var 0) (ra_nil))) (re_gint rfl A.i_MOST_DAYS))))) (rss_never) (rss_nil))
      (rss_one (rs_for C (ri_enum rfl A.b_enumerate (ra_cons (re_var 0) (ra_nil))) (rg_tup C.calm (rgs_cons (rg_name (i := 3) C.nd) (rgs_cons (rg_name (i := 4) C.nd) (rgs_nil)))) (rss_one (rs_if (rt_not (rt_tru (re_call A.d_is_day.df (ok_is_day A) C rfl (ra_cons (re_var 4) (ra_cons (re_var 1) (ra_cons (re_var 2) (ra_nil))))))) (rss_never) (rss_nil)))))
abbrev N_mask_of : List Str := ["tablet", "text"]
theorem sc_mask_of : FnScope N_mask_of ["tablet"] (defScope (tS 29)) := ⟨rfl, rfl, rfl, by decide +kernel, rfl, by decide +kernel, by decide +kernel⟩
def c_mask_of : List Val → M Val := cDef 2 (sRet (cAp (g1 fSum) (cCons (cLc (cIter iData (cVar 0)) [1] (gN 1) (cYes) (cOp (gD dShl) (cK (.int 1)) (cVar 1))) (cNil))))
theorem ok_mask_of (A : Facts K mg base T) : FO P w K T mg base 1 "mask_of" ["tablet"] c_mask_of :=
  fo (k := 0) A.d_mask_of sc_mask_of fun _ _ _ _ _ C => rss_one (rs_ret (re_callB (k_sum C.calm) rfl A.b_sum b_sum (ra_cons (re_lc (own := [("text", 1)]) C (ri_seq (re_var 0)) (blkOk_by (N := N_mask_of) (sc := defScope (tS 29)) (by decide +kernel)) (by decide) (fun _ _ _ _ _ => rg_name (i := 1) C.nd) (fun _ _ _ _ _ => rts_nil) (fun _ _ _ _ _ => re_op o_shl (re_int) (re_var 1))) (ra_nil))))
abbrev N_tablet_of : List Str := ["mask", "text"]
theorem sc_tablet_of : FnScope N_tablet_of ["mask"] (defScope (tS 30)) := ⟨rfl, rfl, rfl, by decide +kernel, rfl, by decide +kernel, by decide +kernel⟩
def c_tablet_of : List Val → M Val := cDef 2 (sRet (cAp (g1 fTup) (cCons (cLc (cIterA iRange1 (cCons (cK (.int 3)) (cNil))) [1] (gN 1) (cTru (cOp (gD dAnd) (cOp (gD dShr) (cVar 0) (cVar 1)) (cK (.int 1)))) (cVar 1)) (cNil))))
theorem ok_tablet_of (A : Facts K mg base T) : FO P w K T mg base 1 "tablet_of" ["mask"] c_tablet_of :=
  fo (k := 0) A.d_tablet_of sc_tablet_of fun _ _ _ _ _ C => rss_one (rs_ret (re_callTy k_tuple rfl A.b_tuple b_tuple (ra_cons (re_lc (own := [("text", 1)]) C (ri_range1 rfl A.b_range (ra_cons (re_gint rfl A.i_MOST_TEXTS) (ra_nil))) (blkOk_by (N := N_tablet_of) (sc := defScope (tS 30)) (by decide +kernel)) (by decide) (fun _ _ _ _ _ => rg_name (i := 1) C.nd) (fun _ _ _ _ _ => rts_one (rt_tru (re_op o_and (re_op o_shr (re_var 0) (re_var 1)) (re_int)))) (fun _ _ _ _ _ => re_var 1)) (ra_nil))))
abbrev N_masks_of : List Str := ["library", "tablet"]
theorem sc_masks_of : FnScope N_masks_of ["library"] (defScope (tS 31)) := ⟨rfl, rfl, rfl, by decide +kernel, rfl, by decide +kernel, by decide +kernel⟩
def c_masks_of : List Val → M Val := cDef 2 (sRet (cLc (cIter iData (cOp gIx (cVar 0) (cK (.int 1)))) [1] (gN 1) (cYes) (cCall 1 c_mask_of (cCons (cVar 1) (cNil)))))
theorem ok_masks_of (A : Facts K mg base T) : FO P w K T mg base 2 "masks_of" ["library"] c_masks_of :=
  fo (k := 1) A.d_masks_of sc_masks_of fun _ _ _ _ _ C => rss_one (rs_ret (re_lc (own := [("tablet", 1)]) C (ri_seq (re_ix (re_var 0) (re_int))) (blkOk_by (N := N_masks_of) (sc := defScope (tS 31)) (by decide +kernel)) (by decide) (fun _ _ _ _ _ => rg_name (i := 1) C.nd) (fun _ _ _ _ _ => rts_nil) (fun _ _ _ _ _ => re_call A.d_mask_of.df (ok_mask_of A) (cok_blk C) rfl (ra_cons (re_var 1) (ra_nil)))))
def c_masks_of_N : List Val → M Val := cDef 2 (sRet (cLcN (cIter iData (cOp gIx (cVar 0) (cK (.int 1)))) [1] (gN 1) (cYes) (cCall 1 c_mask_of (cCons (cVar 1) (cNil)))))
theorem ok_masks_of_N (A : Facts K mg base T) : FO P w K T mg base 2 "masks_of" ["library"] c_masks_of_N :=
  fo (k := 1) A.d_masks_of sc_masks_of fun _ _ _ _ _ C => rss_one (rs_ret (re_lcN (own := [("tablet", 1)]) C (ri_seq (re_ix (re_var 0) (re_int))) (blkOk_by (N := N_masks_of) (sc := defScope (tS 31)) (by decide +kernel)) (by decide) (fun _ _ _ _ _ => rg_name (i := 1) C.nd) (fun _ _ _ _ _ => rts_nil) (fun _ _ _ _ _ => re_call A.d_mask_of.df (ok_mask_of A) (cok_blk C) rfl (ra_cons (re_var 1) (ra_nil)))))
abbrev N_sum_at : List Str := ["masks", "numbers", "whole", "number"]
theorem sc_sum_at : FnScope N_sum_at ["masks", "numbers"] (defScope (tS 32)) := ⟨rfl, rfl, rfl, by decide +kernel, rfl, by decide +kernel, by decide +kernel⟩
def c_sum_at : List Val → M Val := cDef 4 (sSeq (sAsg (gN 2) (cK (.int 0))) (sSeq (sFor (cIter iData (cVar 1)) (gN 3) (sAsg (gN 2) (cOp (gD dXor) (cVar 2) (cOp gIx (cVar 0) (cVar 3))))) (sRet (cVar 2))))
theorem ok_sum_at (A : Facts K mg base T) : FO P w K T mg base 1 "sum_at" ["masks", "numbers"] c_sum_at :=
  fo (k := 0) A.d_sum_at sc_sum_at fun _ _ _ _ _ C => rss_cons (rs_set (i := 2) C.nd (re_int))
      (rss_cons (rs_for C (ri_seq (re_var 1)) (rg_name (i := 3) C.nd) (rss_one (rs_set (i := 2) C.nd (re_op o_xor (re_var 2) (re_ix (re_var 0) (re_var 3))))))
      (rss_one (rs_ret (re_var 2))))
abbrev N_all_sums : List Str := ["masks", "sums", "mask", "other"]
theorem sc_all_sums : FnScope N_all_sums ["masks"] (defScope (tS 33)) := ⟨rfl, rfl, rfl, by decide +kernel, rfl, by decide +kernel, by decide +kernel⟩
def c_all_sums : List Val → M Val := cDef 4 (sSeq (sAsg (gN 1) (cAp gLst (cCons (cK (.int 0)) (cNil)))) (sSeq (sFor (cIter iData (cVar 0)) (gN 2) (sIf (cTest (cOp (gD (dIn true)) (cVar 2) (cVar 1))) (sAsg (gN 1) (cOp (gDM dAdd) (cVar 1) (cLc (cIter iData (cVar 1)) [3] (gN 3) (cYes) (cOp (gD dXor) (cVar 2) (cVar 3))))) (sNil))) (sRet (cVar 1))))
theorem ok_all_sums (A : Facts K mg base T) : FO P w K T mg base 1 "all_sums" ["masks"] c_all_sums :=
  fo (k := 0) A.d_all_sums sc_all_sums fun _ _ _ _ _ C => rss_cons (rs_set (i := 1) C.nd (re_lst (ra_cons (re_int) (ra_nil))))
      (rss_cons (rs_for C (ri_seq (re_var 0)) (rg_name (i := 2) C.nd) (rss_one (rs_if (rt_cmp (o_notIn C.h65) (re_var 2) (re_var 1)) (rss_one (rs_set (i := 1) C.nd (re_op o_add (re_var 1) (re_lc (own := [("other", 3)]) C (ri_seq (re_var 1)) (blkOk_by (N := N_all_sums) (sc := defScope (tS 33)) (by decide +kernel)) (by decide) (fun _ _ _ _ _ => rg_name (i := 3) C.nd) (fun _ _ _ _ _ => rts_nil) (fun _ _ _ _ _ => re_op o_xor (re_var 2) (re_var 3)))))) (rss_nil))))
      (rss_one (rs_ret (re_var 1))))
abbrev N_rank_of : List Str := ["masks"]
theorem sc_rank_of : FnScope N_rank_of ["masks"] (defScope (tS 34)) := ⟨rfl, rfl, rfl, by decide +kernel, rfl, by decide +kernel, by decide +kernel⟩
def c_rank_of : List Val → M Val := cDef 1 (sRet (cOp (gD dSub) (cBits (cAp (g1 fLen) (cCons (cCall 1 c_all_sums (cCons (cVar 0) (cNil))) (cNil)))) (cK (.int 1))))
theorem ok_rank_of (A : Facts K mg base T) : FO P w K T mg base 2 "rank_of" ["masks"] c_rank_of :=
  fo (k := 1) A.d_rank_of sc_rank_of fun _ _ _ _ _ C => rss_one (rs_ret (re_op o_sub (re_bits (re_callB k_len rfl A.b_len b_len (ra_cons (re_call A.d_all_sums.df (ok_all_sums A) C rfl (ra_cons (re_var 0) (ra_nil))) (ra_nil)))) (re_int)))
abbrev N_keep_all : List Str := ["masks", "texts"]
theorem sc_keep_all : FnScope N_keep_all ["masks", "texts"] (defScope (tS 35)) := ⟨rfl, rfl, rfl, by decide +kernel, rfl, by decide +kernel, by decide +kernel⟩
def c_keep_all : List Val → M Val := cDef 2 (sRet (cOp (gD dEq) (cCall 1 c_rank_of (cCons (cVar 0) (cNil))) (cVar 1)))
theorem ok_keep_all (A : Facts K mg base T) : FO P w K T mg base 3 "keep_all" ["masks", "texts"] c_keep_all :=
  fo (k := 2) A.d_keep_all sc_keep_all fun _ _ _ _ _ C => rss_one (rs_ret (re_cmp (o_eq C.h64) (re_call A.d_rank_of.df (ok_rank_of A) C rfl (ra_cons (re_var 0) (ra_nil))) (re_var 1)))
abbrev N_without : List Str := ["masks", "number"]
theorem sc_without : FnScope N_without ["masks", "number"] (defScope (tS 36)) := ⟨rfl, rfl, rfl, by decide +kernel, rfl, by decide +kernel, by decide +kernel⟩
def c_without : List Val → M Val := cDef 2 (sRet (cOp (gDM dAdd) (cSl (cVar 0) cNoPart (cPart (cVar 1))) (cSl (cVar 0) (cPart (cOp (gDM dAdd) (cVar 1) (cK (.int 1)))) cNoPart)))
theorem ok_without (A : Facts K mg base T) : FO P w K T mg base 1 "without" ["masks", "number"] c_without :=
  fo (k := 0) A.d_without sc_without fun _ _ _ _ _ C => rss_one (rs_ret (re_op o_add (re_slice (re_var 0) ro_none (ro_some (re_var 1))) (re_slice (re_var 0) (ro_some (re_op o_add (re_var 1) (re_int))) ro_none)))
abbrev N_choices : List Str := ["numbers", "most", "rows", "number", "row"]
theorem sc_choices : FnScope N_choices ["numbers", "most"] (defScope (tS 37)) := ⟨rfl, rfl, rfl, by decide +kernel, rfl, by decide +kernel, by decide +kernel⟩
def c_choices : List Val → M Val := cDef 5 (sSeq (sAsg (gN 2) (cAp gLst (cCons (cAp gTup (cNil)) (cNil)))) (sSeq (sFor (cIter iData (cVar 0)) (gN 3) (sAsg (gN 2) (cOp (gDM dAdd) (cVar 2) (cLc (cIter iData (cVar 2)) [4] (gN 4) (cTest (cOp (gD dLt) (cAp (g1 fLen) (cCons (cVar 4) (cNil))) (cVar 1))) (cOp (gDM dAdd) (cVar 4) (cAp gTup (cCons (cVar 3) (cNil)))))))) (sRet (cAp (g1 fSorted) (cCons (cVar 2) (cNil))))))
theorem ok_choices (A : Facts K mg base T) : FO P w K T mg base 1 "choices" ["numbers", "most"] c_choices :=
  fo (k := 0) A.d_choices sc_choices fun _ _ _ _ _ C => rss_cons (rs_set (i := 2) C.nd (re_lst (ra_cons (re_tup (ra_nil)) (ra_nil))))
      (rss_cons (rs_for C (ri_seq (re_var 0)) (rg_name (i := 3) C.nd) (rss_one (rs_set (i := 2) C.nd (re_op o_add (re_var 2) (re_lc (own := [("row", 4)]) C (ri_seq (re_var 2)) (blkOk_by (N := N_choices) (sc := defScope (tS 37)) (by decide +kernel)) (by decide) (fun _ _ _ _ _ => rg_name (i := 4) C.nd) (fun _ _ _ _ _ => rts_one (rt_cmp o_lt (re_callB k_len rfl A.b_len b_len (ra_cons (re_var 4) (ra_nil))) (re_var 1))) (fun _ _ _ _ _ => re_op o_add (re_var 4) (re_tup (ra_cons (re_var 3) (ra_nil)))))))))
      (rss_one (rs_ret (re_callB (k_sorted C.h64) rfl A.b_sorted b_sorted (ra_cons (re_var 2) (ra_nil))))))
abbrev N_spanned : List Str := ["library", "mask"]
theorem sc_spanned : FnScope N_spanned ["library"] (defScope (tS 38)) := ⟨rfl, rfl, rfl, by decide +kernel, rfl, by decide +kernel, by decide +kernel⟩
def c0_spanned : List Val → M Val := cDef 2 (sSeq (sDrop (cCall 1 c_check_library (cCons (cVar 0) (cNil)))) (sRet (cAp (g1 fTup) (cCons (cAp (g1 fSorted) (cCons (cLc (cIter iData (cCall 1 c_all_sums (cCons (cCall 1 c_masks_of (cCons (cVar 0) (cNil))) (cNil)))) [1] (gN 1) (cYes) (cCall 1 c_tablet_of (cCons (cVar 1) (cNil)))) (cNil))) (cNil)))))
def c_spanned : List Val → M Val := cPure c0_spanned
theorem ok_spanned (A : Facts K mg base T) : FO P w K T mg base 7 "spanned" ["library"] c_spanned :=
  fo_pure (fo (k := 6) A.d_spanned sc_spanned fun _ _ _ _ _ C => rss_cons (rs_expr (re_call A.d_check_library.df (ok_check_library A) C rfl (ra_cons (re_var 0) (ra_nil))))
      (rss_one (rs_ret (re_callTy k_tuple rfl A.b_tuple b_tuple (ra_cons (re_callB (k_sorted C.h64) rfl A.b_sorted b_sorted (ra_cons (re_lc (own := [("mask", 1)]) C (ri_seq (re_call A.d_all_sums.df (ok_all_sums A) C rfl (ra_cons (re_call A.d_masks_of.df (ok_masks_of A) C rfl (ra_cons (re_var 0) (ra_nil))) (ra_nil)))) (blkOk_by (N := N_spanned) (sc := defScope (tS 38)) (by decide +kernel)) (by decide) (fun _ _ _ _ _ => rg_name (i := 1) C.nd) (fun _ _ _ _ _ => rts_nil) (fun _ _ _ _ _ => re_call A.d_tablet_of.df (ok_tablet_of A) (cok_blk C) rfl (ra_cons (re_var 1) (ra_nil)))) (ra_nil))) (ra_nil))))))
abbrev N_rank : List Str := ["library"]
theorem sc_rank : FnScope N_rank ["library"] (defScope (tS 39)) := ⟨rfl, rfl, rfl, by decide +kernel, rfl, by decide +kernel, by decide +kernel⟩
def c0_rank : List Val → M Val := cDef 1 (sSeq (sDrop (cCall 1 c_check_library (cCons (cVar 0) (cNil)))) (sRet (cCall 1 c_rank_of (cCons (cCall 1 c_masks_of (cCons (cVar 0) (cNil))) (cNil)))))
def c_rank : List Val → M Val := cPure c0_rank
theorem ok_rank (A : Facts K mg base T) : FO P w K T mg base 7 "rank" ["library"] c_rank :=
  fo_pure (fo (k := 6) A.d_rank sc_rank fun _ _ _ _ _ C => rss_cons (rs_expr (re_call A.d_check_library.df (ok_check_library A) C rfl (ra_cons (re_var 0) (ra_nil))))
      (rss_one (rs_ret (re_call A.d_rank_of.df (ok_rank_of A) C rfl (ra_cons (re_call A.d_masks_of.df (ok_masks_of A) C rfl (ra_cons (re_var 0) (ra_nil))) (ra_nil))))))
abbrev N_keeps : List Str := ["library"]
theorem sc_keeps : FnScope N_keeps ["library"] (defScope (tS 40)) := ⟨rfl, rfl, rfl, by decide +kernel, rfl, by decide +kernel, by decide +kernel⟩
def c0_keeps : List Val → M Val := cDef 1 (sSeq (sDrop (cCall 1 c_check_library (cCons (cVar 0) (cNil)))) (sRet (cCall 2 c_keep_all (cCons (cCall 1 c_masks_of (cCons (cVar 0) (cNil))) (cCons (cOp gIx (cVar 0) (cK (.int 0))) (cNil))))))
def c_keeps : List Val → M Val := cPure c0_keeps
theorem ok_keeps (A : Facts K mg base T) : FO P w K T mg base 7 "keeps" ["library"] c_keeps :=
  fo_pure (fo (k := 6) A.d_keeps sc_keeps fun _ _ _ _ _ C => rss_cons (rs_expr (re_call A.d_check_library.df (ok_check_library A) C rfl (ra_cons (re_var 0) (ra_nil))))
      (rss_one (rs_ret (re_call A.d_keep_all.df (ok_keep_all A) C rfl (ra_cons (re_call A.d_masks_of.df (ok_masks_of A) C rfl (ra_cons (re_var 0) (ra_nil))) (ra_cons (re_ix (re_var 0) (re_int)) (ra_nil)))))))
abbrev N_after : List Str := ["library", "most", "days", "masks", "number", "others", "mask"]
theorem sc_after : FnScope N_after ["library", "most", "days"] (defScope (tS 41)) := ⟨rfl, rfl, rfl, by decide +kernel, rfl, by decide +kernel, by decide +kernel⟩
def c0_after : List Val → M Val := cDef 7 (sSeq (sDrop (cCall 2 c_check_game (cCons (cVar 0) (cCons (cVar 1) (cNil))))) (sSeq (sDrop (cCall 3 c_check_days (cCons (cVar 2) (cCons (cAp (g1 fLen) (cCons (cOp gIx (cVar 0) (cK (.int 1))) (cNil))) (cCons (cVar 1) (cNil)))))) (sSeq (sAsg (gN 3) (cCall 1 c_masks_of_N (cCons (cVar 0) (cNil)))) (sSeq (sFor (cIter iData (cVar 2)) (gTupT [gN 4, gN 5]) (sStore setC (cVar 3) (cVar 4) (cCall 2 c_sum_at (cCons (cVar 3) (cCons (cVar 5) (cNil)))))) (sFz 3 (sRet (cAp gTup (cCons (cOp gIx (cVar 0) (cK (.int 0))) (cCons (cAp (g1 fTup) (cCons (cLc (cIter iData (cVar 3)) [6] (gN 6) (cYes) (cCall 1 c_tablet_of (cCons (cVar 6) (cNil)))) (cNil))) (cNil))))))))))
def c_after : List Val → M Val := cPure c0_after
theorem ok_after (A : Facts K mg base T) : FO P w K T mg base 8 "after" ["library", "most", "days"] c_after :=
  fo_pure (fo (k := 7) A.d_after sc_after fun _ _ _ _ _ C => rss_cons (rs_expr (re_call A.d_check_game.df (ok_check_game A) C rfl (ra_cons (re_var 0) (ra_cons (re_var 1) (ra_nil)))))
      (rss_cons (rs_expr (re_call A.d_check_days.df (ok_check_days A) C rfl (ra_cons (re_var 2) (ra_cons (re_callB k_len rfl A.b_len b_len (ra_cons (re_ix (re_var 0) (re_int)) (ra_nil))) (ra_cons (re_var 1) (ra_nil))))))
      (rss_cons (rs_set (i := 3) C.nd (re_call A.d_masks_of.df (ok_masks_of_N A) C rfl (ra_cons (re_var 0) (ra_nil))))
      (rss_cons (rs_for C (ri_seq (re_var 2)) (rg_tup C.calm (rgs_cons (rg_name (i := 4) C.nd) (rgs_cons (rg_name (i := 5) C.nd) (rgs_nil)))) (rss_one (rs_store (re_call A.d_sum_at.df (ok_sum_at A) C rfl (ra_cons (re_var 3) (ra_cons (re_var 5) (ra_nil)))) (re_var 3) (re_var 4) st_list)))
      (rss_fz 3 (rss_one (rs_ret (re_tup (ra_cons (re_ix (re_var 0) (re_int)) (ra_cons (re_callTy k_tuple rfl A.b_tuple b_tuple (ra_cons (re_lc (own := [("mask", 6)]) C (ri_seq (re_var 3)) (blkOk_by (N := N_after) (sc := defScope (tS 41)) (by decide +kernel)) (by decide) (fun _ _ _ _ _ => rg_name (i := 6) C.nd) (fun _ _ _ _ _ => rts_nil) (fun _ _ _ _ _ => re_call A.d_tablet_of.df (ok_tablet_of A) (cok_blk C) rfl (ra_cons (re_var 6) (ra_nil)))) (ra_nil))) (ra_nil)))))))))))
abbrev N_lost_on : List Str := ["library", "most", "days", "masks", "index", "number", "others"]
theorem sc_lost_on : FnScope N_lost_on ["library", "most", "days"] (defScope (tS 42)) := ⟨rfl, rfl, rfl, by decide +kernel, rfl, by decide +kernel, by decide +kernel⟩
def c0_lost_on : List Val → M Val := cDef 7 (sSeq (sDrop (cCall 2 c_check_game (cCons (cVar 0) (cCons (cVar 1) (cNil))))) (sSeq (sDrop (cCall 3 c_check_days (cCons (cVar 2) (cCons (cAp (g1 fLen) (cCons (cOp gIx (cVar 0) (cK (.int 1))) (cNil))) (cCons (cVar 1) (cNil)))))) (sSeq (sAsg (gN 3) (cCall 1 c_masks_of_N (cCons (cVar 0) (cNil)))) (sSeq (sFor (cIterA iEnumF (cCons (cVar 2) (cNil))) (gTupT [gN 4, gTupT [gN 5, gN 6]]) (sSeq (sIf (cNot (cTru (cCall 2 c_keep_all (cCons (cCall 2 c_without (cCons (cVar 3) (cCons (cVar 5) (cNil)))) (cCons (cOp gIx (cVar 0) (cK (.int 0))) (cNil)))))) (sRet (cVar 4)) (sNil)) (sStore setC (cVar 3) (cVar 5) (cCall 2 c_sum_at (cCons (cVar 3) (cCons (cVar 6) (cNil))))))) (sRet (cK .none))))))
def c_lost_on : List Val → M Val := cPure c0_lost_on
theorem ok_lost_on (A : Facts K mg base T) : FO P w K T mg base 8 "lost_on" ["library", "most", "days"] c_lost_on :=
  fo_pure (fo (k := 7) A.d_lost_on sc_lost_on fun _ _ _ _ _ C => rss_cons (rs_expr (re_call A.d_check_game.df (ok_check_game A) C rfl (ra_cons (re_var 0) (ra_cons (re_var 1) (ra_nil)))))
      (rss_cons (rs_expr (re_call A.d_check_days.df (ok_check_days A) C rfl (ra_cons (re_var 2) (ra_cons (re_callB k_len rfl A.b_len b_len (ra_cons (re_ix (re_var 0) (re_int)) (ra_nil))) (ra_cons (re_var 1) (ra_nil))))))
      (rss_cons (rs_set (i := 3) C.nd (re_call A.d_masks_of.df (ok_masks_of_N A) C rfl (ra_cons (re_var 0) (ra_nil))))
      (rss_cons (rs_for C (ri_enum rfl A.b_enumerate (ra_cons (re_var 2) (ra_nil))) (rg_tup C.calm (rgs_cons (rg_name (i := 4) C.nd) (rgs_cons (rg_tup C.calm (rgs_cons (rg_name (i := 5) C.nd) (rgs_cons (rg_name (i := 6) C.nd) (rgs_nil)))) (rgs_nil)))) (rss_cons (rs_if (rt_not (rt_tru (re_call A.d_keep_all.df (ok_keep_all A) C rfl (ra_cons (re_call A.d_without.df (ok_without A) C rfl (ra_cons (re_var 3) (ra_cons (re_var 5) (ra_nil)))) (ra_cons (re_ix (re_var 0) (re_int)) (ra_nil)))))) (rss_one (rs_ret (re_var 4))) (rss_nil))
      (rss_one (rs_store (re_call A.d_sum_at.df (ok_sum_at A) C rfl (ra_cons (re_var 3) (ra_cons (re_var 6) (ra_nil)))) (re_var 3) (re_var 5) st_list))))
      (rss_one (rs_ret (re_non)))))))
abbrev N_state_of : List Str := ["masks"]
theorem sc_state_of : FnScope N_state_of ["masks"] (defScope (tS 44)) := ⟨rfl, rfl, rfl, by decide +kernel, rfl, by decide +kernel, by decide +kernel⟩
def c_state_of : List Val → M Val := cDef 1 (sRet (cAp (g1 fTup) (cCons (cAp (g1 fSorted) (cCons (cVar 0) (cNil))) (cNil))))
theorem ok_state_of (A : Facts K mg base T) : FO P w K T mg base 1 "state_of" ["masks"] c_state_of :=
  fo (k := 0) A.d_state_of sc_state_of fun _ _ _ _ _ C => rss_one (rs_ret (re_callTy k_tuple rfl A.b_tuple b_tuple (ra_cons (re_callB (k_sorted C.h64) rfl A.b_sorted b_sorted (ra_cons (re_var 0) (ra_nil))) (ra_nil))))
abbrev N_all_rests : List Str := ["state", "melts", "rows", "_", "row", "low", "at"]
theorem sc_all_rests : FnScope N_all_rests ["state", "melts"] (defScope (tS 45)) := ⟨rfl, rfl, rfl, by decide +kernel, rfl, by decide +kernel, by decide +kernel⟩
def c_all_rests : List Val → M Val := cDef 7 (sSeq (sAsg (gN 2) (cAp gLst (cCons (cAp gTup (cCons (cVar 0) (cCons (cK (.int 0)) (cNil)))) (cNil)))) (sSeq (sFor (cIterA iRange1 (cCons (cVar 1) (cNil))) (gN 3) (sAsg (gN 2) (cLc2 (cIter iData (cVar 2)) [4, 5, 6] (gTupT [gN 4, gN 5]) (cYes) (cIterA iRange2 (cCons (cVar 5) (cCons (cAp (g1 fLen) (cCons (cVar 4) (cNil))) (cNil)))) [6] (gN 6) (cYes) (cAp gTup (cCons (cOp (gDM dAdd) (cSl (cVar 4) cNoPart (cPart (cVar 6))) (cSl (cVar 4) (cPart (cOp (gDM dAdd) (cVar 6) (cK (.int 1)))) cNoPart)) (cCons (cVar 6) (cNil))))))) (sRet (cLc (cIter iData (cVar 2)) [4, 3] (gTupT [gN 4, gN 3]) (cYes) (cVar 4)))))
theorem ok_all_rests (A : Facts K mg base T) : FO P w K T mg base 1 "all_rests" ["state", "melts"] c_all_rests :=
  fo (k := 0) A.d_all_rests sc_all_rests fun _ _ _ _ _ C => rss_cons (rs_set (i := 2) C.nd (re_lst (ra_cons (re_tup (ra_cons (re_var 0) (ra_cons (re_int) (ra_nil)))) (ra_nil))))
      (rss_cons (rs_for C (ri_range1 rfl A.b_range (ra_cons (re_var 1) (ra_nil))) (rg_name (i := 3) C.nd) (rss_one (rs_setLc2 (i := 2) (own := [("row", 4), ("low", 5), ("at", 6)]) C (vs1 := [6]) (ri_seq (re_var 2)) (blkOk_by (N := N_all_rests) (sc := defScope (tS 45)) (by decide +kernel)) (by decide) (by decide) (by decide) (fun _ _ _ _ _ => rg_tup C.calm (rgs_cons (rg_name (i := 4) C.nd) (rgs_cons (rg_name (i := 5) C.nd) (rgs_nil)))) (fun _ _ _ _ _ => rts_nil) (fun _ _ _ _ _ => ri_range2 rfl A.b_range (ra_cons (re_var 5) (ra_cons (re_callB k_len rfl A.b_len b_len (ra_cons (re_var 4) (ra_nil))) (ra_nil)))) (fun _ _ _ _ _ => rg_name (i := 6) C.nd) (fun _ _ _ _ _ => rts_nil) (fun _ _ _ _ _ => re_tup (ra_cons (re_op o_add (re_slice (re_var 4) ro_none (ro_some (re_var 6))) (re_slice (re_var 4) (ro_some (re_op o_add (re_var 6) (re_int))) ro_none)) (ra_cons (re_var 6) (ra_nil)))))))
      (rss_one (rs_ret (re_lc (own := [("row", 4), ("_", 3)]) C (ri_seq (re_var 2)) (blkOk_by (N := N_all_rests) (sc := defScope (tS 45)) (by decide +kernel)) (by decide) (fun _ _ _ _ _ => rg_tup C.calm (rgs_cons (rg_name (i := 4) C.nd) (rgs_cons (rg_name (i := 3) C.nd) (rgs_nil)))) (fun _ _ _ _ _ => rts_nil) (fun _ _ _ _ _ => re_var 4)))))
abbrev N_sums_of_few : List Str := ["masks", "most", "sums", "_", "one", "other"]
theorem sc_sums_of_few : FnScope N_sums_of_few ["masks", "most"] (defScope (tS 46)) := ⟨rfl, rfl, rfl, by decide +kernel, rfl, by decide +kernel, by decide +kernel⟩
def c_sums_of_few : List Val → M Val := cDef 6 (sSeq (sAsg (gN 2) (cAp gLst (cCons (cK (.int 0)) (cNil)))) (sSeq (sFor (cIterA iRange1 (cCons (cVar 1) (cNil))) (gN 3) (sAsg (gN 2) (cSc2 elI finI (cIter iData (cVar 2)) [4, 5] (gN 4) (cYes) (cIter iData (cAp gTup (cCons (cK (.int 0)) (cStar (cVar 0) (cNil))))) [5] (gN 5) (cYes) (cOp (gD dXor) (cVar 4) (cVar 5))))) (sRet (cVar 2))))
theorem ok_sums_of_few (A : Facts K mg base T) : FO P w K T mg base 1 "sums_of_few" ["masks", "most"] c_sums_of_few :=
  fo (k := 0) A.d_sums_of_few sc_sums_of_few fun _ _ _ _ _ C => rss_cons (rs_set (i := 2) C.nd (re_lst (ra_cons (re_int) (ra_nil))))
      (rss_cons (rs_for C (ri_range1 rfl A.b_range (ra_cons (re_var 1) (ra_nil))) (rg_name (i := 3) C.nd) (rss_one (rs_set (i := 2) C.nd (re_sortScI (own := [("one", 4), ("other", 5)]) (vs1 := [5]) C rfl A.b_sorted (ri_seq (re_var 2)) (blkOk_by (N := N_sums_of_few) (sc := defScope (tS 46)) (by decide +kernel)) (by decide) (by decide) (by decide) (fun _ _ _ _ _ => rg_name (i := 4) C.nd) (fun _ _ _ _ _ => rts_nil) (fun _ _ _ _ _ => ri_seq (re_tup (ra_cons (re_int) (ra_star (re_var 0) (ra_nil))))) (fun _ _ _ _ _ => rg_name (i := 5) C.nd) (fun _ _ _ _ _ => rts_nil) (fun _ _ _ _ _ => re_op o_xor (re_var 4) (re_var 5))))))
      (rss_one (rs_ret (re_var 2))))
abbrev N_states_behind : List Str := ["rest", "most", "goal", "melts", "states", "_", "state", "fresh"]
theorem sc_states_behind : FnScope N_states_behind ["rest", "most", "goal", "melts"] (defScope (tS 47)) := ⟨rfl, rfl, rfl, by decide +kernel, rfl, by decide +kernel, by decide +kernel⟩
def c_states_behind : List Val → M Val := cDef 8 (sSeq (sIf (cTest (cOp (gD dLt) (cCall 1 c_rank_of (cCons (cVar 0) (cNil))) (cVar 2))) (sRet (cAp gLst (cNil))) (sNil)) (sSeq (sAsg (gN 4) (cAp gLst (cCons (cVar 0) (cNil)))) (sSeq (sFor (cIterA iRange1 (cCons (cVar 3) (cNil))) (gN 5) (sAsg (gN 4) (cSc2 elT finT (cIter iData (cVar 4)) [6, 7] (gN 6) (cYes) (cIter iData (cCall 2 c_sums_of_few (cCons (cVar 6) (cCons (cVar 1) (cNil))))) [7] (gN 7) (cYes) (cCall 1 c_state_of (cCons (cAp gLst (cStar (cVar 6) (cCons (cVar 7) (cNil)))) (cNil)))))) (sRet (cVar 4)))))
theorem ok_states_behind (A : Facts K mg base T) : FO P w K T mg base 3 "states_behind" ["rest", "most", "goal", "melts"] c_states_behind :=
  fo (k := 2) A.d_states_behind sc_states_behind fun _ _ _ _ _ C => rss_cons (rs_if (rt_cmp o_lt (re_call A.d_rank_of.df (ok_rank_of A) C rfl (ra_cons (re_var 0) (ra_nil))) (re_var 2)) (rss_one (rs_ret (re_lst (ra_nil)))) (rss_nil))
      (rss_cons (rs_set (i := 4) C.nd (re_lst (ra_cons (re_var 0) (ra_nil))))
      (rss_cons (rs_for C (ri_range1 rfl A.b_range (ra_cons (re_var 3) (ra_nil))) (rg_name (i := 5) C.nd) (rss_one (rs_set (i := 4) C.nd (re_sortScT (own := [("state", 6), ("fresh", 7)]) (vs1 := [7]) C rfl A.b_sorted (ri_seq (re_var 4)) (blkOk_by (N := N_states_behind) (sc := defScope (tS 47)) (by decide +kernel)) (by decide) (by decide) (by decide) (fun _ _ _ _ _ => rg_name (i := 6) C.nd) (fun _ _ _ _ _ => rts_nil) (fun _ _ _ _ _ => ri_seq (re_call A.d_sums_of_few.df (ok_sums_of_few A) (cok_blk C) rfl (ra_cons (re_var 6) (ra_cons (re_var 1) (ra_nil))))) (fun _ _ _ _ _ => rg_name (i := 7) C.nd) (fun _ _ _ _ _ => rts_nil) (fun _ _ _ _ _ => re_call A.d_state_of.df (ok_state_of A) (cok_blk C) rfl (ra_cons (re_lst (ra_star (re_var 6) (ra_cons (re_var 7) (ra_nil)))) (ra_nil)))))))
      (rss_one (rs_ret (re_var 4)))))
abbrev N_Play_d_u__init_u_ : List Str := ["self", "starts", "most", "goal", "melts", "waiting", "state", "rests", "rest", "behind"]
theorem sc_Play_d_u__init_u_ : FnScope N_Play_d_u__init_u_ ["self", "starts", "most", "goal", "melts"] (defScope (tM 48 0)) := ⟨rfl, rfl, rfl, by decide +kernel, rfl, by decide +kernel, by decide +kernel⟩
def c_Play_d_u__init_u_ : List Val → M Val := cDef 10 (sSeq (sFldS "Play" "rests" (cVar 0) (cNewT)) (sSeq (sFldS "Play" "states" (cVar 0) (cNewT)) (sSeq (sAsg (gN 5) (cAp (gListN) (cCons (cVar 1) (cNil)))) (whileN (cTru (cVar 5)) (sSeq (sAsg (gN 6) (cMt0 isCl gPop (cVar 5))) (sIf (cTest (cOp gDNotIn (cVar 6) (cFld "Play" "rests" (cVar 0)))) (sSeq (sAsg (gN 7) (cCall 2 c_all_rests (cCons (cVar 6) (cCons (cVar 4) (cNil))))) (sSeq (sStore setD (cFld "Play" "rests" (cVar 0)) (cVar 6) (cVar 7)) (sFor (cIter iData (cVar 7)) (gN 8) (sIf (cTest (cOp gDNotIn (cVar 8) (cFld "Play" "states" (cVar 0)))) (sSeq (sAsg (gN 9) (cCall 4 c_states_behind (cCons (cVar 8) (cCons (cVar 2) (cCons (cVar 3) (cCons (cVar 4) (cNil))))))) (sSeq (sStore setD (cFld "Play" "states" (cVar 0)) (cVar 8) (cVar 9)) (sDrop (cMt isCl gExtend (cVar 5) (cCons (cVar 9) (cNil)))))) (sNil))))) (sNil))) 3000))))
theorem ok_Play_d_u__init_u_ (A : Facts K mg base T) : FP P w K T mg base 4 ("Play", some "__init__") ["self", "starts", "most", "goal", "melts"] c_Play_d_u__init_u_ :=
  fp (k := 3) A.d_Play_d_u__init_u_ sc_Play_d_u__init_u_ fun _ _ _ _ _ C => rss_cons (rs_fld A.c_Play A.n_Play_rests (re_var 0) (re_newT))
      (rss_cons (rs_fld A.c_Play A.n_Play_states (re_var 0) (re_newT))
      (rss_cons (rs_set (i := 5) C.nd (re_callTy k_listN rfl A.b_list b_list (ra_cons (re_var 1) (ra_nil))))
      (rss_one (rs_while 3000 C (rt_tru (re_var 5)) (rss_cons (rs_set (i := 6) C.nd (re_pop (re_var 5)))
      (rss_one (rs_if (rt_dnotin C.h1 (re_var 6) (re_fld A.c_Play A.n_Play_rests (re_var 0))) (rss_cons (rs_set (i := 7) C.nd (re_call A.d_all_rests.df (ok_all_rests A) C rfl (ra_cons (re_var 6) (ra_cons (re_var 4) (ra_nil)))))
      (rss_cons (rs_store (re_var 7) (re_fld A.c_Play A.n_Play_rests (re_var 0)) (re_var 6) (st_dict C.h1))
      (rss_one (rs_for C (ri_seq (re_var 7)) (rg_name (i := 8) C.nd) (rss_one (rs_if (rt_dnotin C.h1 (re_var 8) (re_fld A.c_Play A.n_Play_states (re_var 0))) (rss_cons (rs_set (i := 9) C.nd (re_call A.d_states_behind.df (ok_states_behind A) C rfl (ra_cons (re_var 8) (ra_cons (re_var 2) (ra_cons (re_var 3) (ra_cons (re_var 4) (ra_nil)))))))
      (rss_cons (rs_store (re_var 9) (re_fld A.c_Play A.n_Play_states (re_var 0)) (re_var 8) (st_dict C.h1))
      (rss_one (rs_expr (re_extend (re_var 5) (ra_cons (re_var 9) (ra_nil))))))) (rss_nil))))))) (rss_nil))))))))
abbrev N_Play_d_is_lost : List Str := ["self", "rest", "lost", "state"]
theorem sc_Play_d_is_lost : FnScope N_Play_d_is_lost ["self", "rest", "lost"] (defScope (tM 48 2)) := ⟨rfl, rfl, rfl, by decide +kernel, rfl, by decide +kernel, by decide +kernel⟩
def c_Play_d_is_lost : List Val → M Val := cDef 4 (sRet (cGx false (cIter iData (cOp gDGet (cFld "Play" "states" (cVar 0)) (cVar 1))) [3] (gN 3) cYes (cOp gDIn (cVar 3) (cVar 2))))
theorem ok_Play_d_is_lost (A : Facts K mg base T) : FP P w K T mg base 2 ("Play", some "is_lost") ["self", "rest", "lost"] c_Play_d_is_lost :=
  fp (k := 1) A.d_Play_d_is_lost sc_Play_d_is_lost fun _ _ _ _ _ C => rss_one (rs_ret (re_all (own := [("state", 3)]) C rfl A.b_all (tbAt A.t_Play_d_is_lost) (gnOk_by (N := N_Play_d_is_lost) (sc := defScope (tM 48 2)) (by decide +kernel)) (by decide) (ri_seq (re_dget C.h1 (re_fld A.c_Play A.n_Play_states (re_var 0)) (re_var 1))) (fun _ _ _ _ _ _ _ => rg_name (i := 3) C.nd) (fun _ _ _ _ _ _ _ => rts_nil) (fun _ _ _ _ _ _ _ C1 => re_din C1.h1 (re_var 3) (re_var 2))))
abbrev N_Play_d_is_losing : List Str := ["self", "state", "doomed", "rest"]
theorem sc_Play_d_is_losing : FnScope N_Play_d_is_losing ["self", "state", "doomed"] (defScope (tM 48 3)) := ⟨rfl, rfl, rfl, by decide +kernel, rfl, by decide +kernel, by decide +kernel⟩
def c_Play_d_is_losing : List Val → M Val := cDef 4 (sRet (cGx true (cIter iData (cOp gDGet (cFld "Play" "rests" (cVar 0)) (cVar 1))) [3] (gN 3) cYes (cOp gDIn (cVar 3) (cVar 2))))
theorem ok_Play_d_is_losing (A : Facts K mg base T) : FP P w K T mg base 2 ("Play", some "is_losing") ["self", "state", "doomed"] c_Play_d_is_losing :=
  fp (k := 1) A.d_Play_d_is_losing sc_Play_d_is_losing fun _ _ _ _ _ C => rss_one (rs_ret (re_any (own := [("rest", 3)]) C rfl A.b_any (tbAt A.t_Play_d_is_losing) (gnOk_by (N := N_Play_d_is_losing) (sc := defScope (tM 48 3)) (by decide +kernel)) (by decide) (ri_seq (re_dget C.h1 (re_fld A.c_Play A.n_Play_rests (re_var 0)) (re_var 1))) (fun _ _ _ _ _ _ _ => rg_name (i := 3) C.nd) (fun _ _ _ _ _ _ _ => rts_nil) (fun _ _ _ _ _ _ _ C1 => re_din C1.h1 (re_var 3) (re_var 2))))
abbrev N_Play_d_newly_lost : List Str := ["self", "lost", "doomed", "rest", "state"]
theorem sc_Play_d_newly_lost : FnScope N_Play_d_newly_lost ["self", "lost"] (defScope (tM 48 4)) := ⟨rfl, rfl, rfl, by decide +kernel, rfl, by decide +kernel, by decide +kernel⟩
def c_Play_d_newly_lost : List Val → M Val := cDef 5 (sSeq (sLock (pFld 0 "Play" "states") (sAsg (gN 2) (cDc1 (.dT []) (cIter iKeysT (cFld "Play" "states" (cVar 0))) [3] (gN 3) (cTru (cMeth "Play" "is_lost" 3 c_Play_d_is_lost (cVar 0) (cCons (cVar 3) (cCons (cVar 1) (cNil))))) (cVar 3) (cK (.bool true))))) (sLock (pFld 0 "Play" "rests") (sRet (cLc (cIter iKeysT (cFld "Play" "rests" (cVar 0))) [4] (gN 4) (cAnd (cTest (cOp gDNotIn (cVar 4) (cVar 1))) (cTru (cMeth "Play" "is_losing" 3 c_Play_d_is_losing (cVar 0) (cCons (cVar 4) (cCons (cVar 2) (cNil)))))) (cVar 4)))))
theorem ok_Play_d_newly_lost (A : Facts K mg base T) : FP P w K T mg base 3 ("Play", some "newly_lost") ["self", "lost"] c_Play_d_newly_lost :=
  fp (k := 2) A.d_Play_d_newly_lost sc_Play_d_newly_lost fun _ _ _ _ _ C => rss_cons (rs_lock (pFld 0 "Play" "states") (rs_set (i := 2) C.nd (re_dc1T (own := [("rest", 3)]) C (ri_keys (re_fld A.c_Play A.n_Play_states (re_var 0))) (blkOk_by (N := N_Play_d_newly_lost) (sc := defScope (tM 48 4)) (by decide +kernel)) (by decide) (fun _ _ _ _ _ => rg_name (i := 3) C.nd) (fun _ _ _ _ _ => rts_one (rt_tru (re_meth (dm_of A.c_Play A.m_Play_is_lost A.d_Play_d_is_lost) (ok_Play_d_is_lost A) (cok_blk C) (re_var 0) (ra_cons (re_var 3) (ra_cons (re_var 1) (ra_nil)))))) (fun _ _ _ _ _ => re_var 3) (fun _ _ _ _ _ => re_bl))))
      (rss_one (rs_lock (pFld 0 "Play" "rests") (rs_ret (re_lc (own := [("state", 4)]) C (ri_keys (re_fld A.c_Play A.n_Play_rests (re_var 0))) (blkOk_by (N := N_Play_d_newly_lost) (sc := defScope (tM 48 4)) (by decide +kernel)) (by decide) (fun _ _ _ _ _ => rg_name (i := 4) C.nd) (fun _ _ _ _ _ => rts_one (RW.rt (rw_and (rt_dnotin (cok_blk C).h1 (re_var 4) (re_var 1)) (rw_and1 (rt_tru (re_meth (dm_of A.c_Play A.m_Play_is_losing A.d_Play_d_is_losing) (ok_Play_d_is_losing A) (cok_blk C) (re_var 0) (ra_cons (re_var 4) (ra_cons (re_var 2) (ra_nil))))))))) (fun _ _ _ _ _ => re_var 4)))))
abbrev N_days_lost : List Str := ["play", "lost", "day", "fresh", "state"]
theorem sc_days_lost : FnScope N_days_lost ["play"] (defScope (tS 49)) := ⟨rfl, rfl, rfl, by decide +kernel, rfl, by decide +kernel, by decide +kernel⟩
def c_days_lost : List Val → M Val := cDef 5 (sSeq (sAsg (gN 1) (cNewT)) (sSeq (sAsg (gN 2) (cK (.int 1))) (sSeq (sAsg (gN 3) (cMeth "Play" "newly_lost" 2 c_Play_d_newly_lost (cVar 0) (cCons (cVar 1) (cNil)))) (sSeq (whileN (cTru (cVar 3)) (sSeq (sFor (cIter iData (cVar 3)) (gN 4) (sStore setD (cVar 1) (cVar 4) (cVar 2))) (sSeq (sAug 2 (fun i j => i + j) (cK (.int 1))) (sAsg (gN 3) (cMeth "Play" "newly_lost" 2 c_Play_d_newly_lost (cVar 0) (cCons (cVar 1) (cNil)))))) 200) (sRet (cVar 1))))))
theorem ok_days_lost (A : Facts K mg base T) : FO P w K T mg base 4 "days_lost" ["play"] c_days_lost :=
  fo (k := 3) A.d_days_lost sc_days_lost fun _ _ _ _ _ C => rss_cons (rs_set (i := 1) C.nd (re_newT))
      (rss_cons (rs_set (i := 2) C.nd (re_int))
      (rss_cons (rs_set (i := 3) C.nd (re_meth (dm_of A.c_Play A.m_Play_newly_lost A.d_Play_d_newly_lost) (ok_Play_d_newly_lost A) C (re_var 0) (ra_cons (re_var 1) (ra_nil))))
      (rss_cons (rs_while 200 C (rt_tru (re_var 3)) (rss_cons (rs_for C (ri_seq (re_var 3)) (rg_name (i := 4) C.nd) (rss_one (rs_store (re_var 2) (re_var 1) (re_var 4) (st_dict C.h1))))
      (rss_cons (rs_augI (i := 2) C.nd ip_add (re_int))
      (rss_one (rs_set (i := 3) C.nd (re_meth (dm_of A.c_Play A.m_Play_newly_lost A.d_Play_d_newly_lost) (ok_Play_d_newly_lost A) C (re_var 0) (ra_cons (re_var 1) (ra_nil))))))))
      (rss_one (rs_ret (re_var 1))))))
abbrev N_is_tame : List Str := ["masks", "most", "number", "others", "other", "row"]
theorem sc_is_tame : FnScope N_is_tame ["masks", "most", "number"] (defScope (tS 51)) := ⟨rfl, rfl, rfl, by decide +kernel, rfl, by decide +kernel, by decide +kernel⟩
def c_is_tame : List Val → M Val := cDef 6 (sSeq (sAsg (gN 3) (cLc (cIterA iRange1 (cCons (cAp (g1 fLen) (cCons (cVar 0) (cNil))) (cNil))) [4] (gN 4) (cTest (cOp (gD dNe) (cVar 4) (cVar 2))) (cVar 4))) (sRet (cGx true (cIter iData (cCall 2 c_choices (cCons (cVar 3) (cCons (cVar 1) (cNil))))) [5] (gN 5) cYes (cOp (gD dEq) (cCall 2 c_sum_at (cCons (cVar 0) (cCons (cVar 5) (cNil)))) (cOp gIx (cVar 0) (cVar 2))))))
theorem ok_is_tame (A : Facts K mg base T) : FO P w K T mg base 3 "is_tame" ["masks", "most", "number"] c_is_tame :=
  fo (k := 2) A.d_is_tame sc_is_tame fun _ _ _ _ _ C => rss_cons (rs_setLc (i := 3) (own := [("other", 4)]) C (ri_range1 rfl A.b_range (ra_cons (re_callB k_len rfl A.b_len b_len (ra_cons (re_var 0) (ra_nil))) (ra_nil))) (blkOk_by (N := N_is_tame) (sc := defScope (tS 51)) (by decide +kernel)) (by decide) (fun _ _ _ _ _ => rg_name (i := 4) C.nd) (fun _ _ _ _ _ => rts_one (rt_cmp (o_ne (cok_blk C).h64) (re_var 4) (re_var 2))) (fun _ _ _ _ _ => re_var 4))
      (rss_one (rs_ret (re_any (own := [("row", 5)]) C rfl A.b_any (tbOk A.t_is_tame) (gnOk_by (N := N_is_tame) (sc := defScope (tS 51)) (by decide +kernel)) (by decide) (ri_seq (re_call A.d_choices.df (ok_choices A) C rfl (ra_cons (re_var 3) (ra_cons (re_var 1) (ra_nil))))) (fun _ _ _ _ _ _ _ => rg_name (i := 5) C.nd) (fun _ _ _ _ _ _ _ => rts_nil) (fun _ _ _ _ _ _ _ C1 => re_cmp (o_eq C1.h64) (re_call A.d_sum_at.df (ok_sum_at A) C1 rfl (ra_cons (re_var 0) (ra_cons (re_var 5) (ra_nil)))) (re_ix (re_var 0) (re_var 2))))))
abbrev N_is_ring : List Str := ["masks", "row", "lesser", "part"]
theorem sc_is_ring : FnScope N_is_ring ["masks", "row"] (defScope (tS 52)) := ⟨rfl, rfl, rfl, by decide +kernel, rfl, by decide +kernel, by decide +kernel⟩
def c_is_ring : List Val → M Val := cDef 4 (sSeq (sIf (cOr (cNot (cTru (cVar 1))) (cTest (cOp (gD dNe) (cCall 2 c_sum_at (cCons (cVar 0) (cCons (cVar 1) (cNil)))) (cK (.int 0))))) (sRet (cK (.bool false))) (sNil)) (sSeq (sAsg (gN 2) (cLc (cIter iData (cCall 2 c_choices (cCons (cVar 1) (cCons (cOp (gD dSub) (cAp (g1 fLen) (cCons (cVar 1) (cNil))) (cK (.int 1))) (cNil))))) [3] (gN 3) (cTru (cVar 3)) (cVar 3))) (sRet (cGx false (cIter iData (cVar 2)) [3] (gN 3) cYes (cOp (gD dNe) (cCall 2 c_sum_at (cCons (cVar 0) (cCons (cVar 3) (cNil)))) (cK (.int 0)))))))
theorem ok_is_ring (A : Facts K mg base T) : FO P w K T mg base 3 "is_ring" ["masks", "row"] c_is_ring :=
  fo (k := 2) A.d_is_ring sc_is_ring fun _ _ _ _ _ C => rss_cons (rs_if (RW.rt (rw_or (rt_not (rt_tru (re_var 1))) (rw_or1 (rt_cmp (o_ne C.h64) (re_call A.d_sum_at.df (ok_sum_at A) C rfl (ra_cons (re_var 0) (ra_cons (re_var 1) (ra_nil)))) (re_int))))) (rss_one (rs_ret (re_bl))) (rss_nil))
      (rss_cons (rs_setLc (i := 2) (own := [("part", 3)]) C (ri_seq (re_call A.d_choices.df (ok_choices A) C rfl (ra_cons (re_var 1) (ra_cons (re_op o_sub (re_callB k_len rfl A.b_len b_len (ra_cons (re_var 1) (ra_nil))) (re_int)) (ra_nil))))) (blkOk_by (N := N_is_ring) (sc := defScope (tS 52)) (by decide +kernel)) (by decide) (fun _ _ _ _ _ => rg_name (i := 3) C.nd) (fun _ _ _ _ _ => rts_one (rt_tru (re_var 3))) (fun _ _ _ _ _ => re_var 3))
      (rss_one (rs_ret (re_all (own := [("part", 3)]) C rfl A.b_all (tbOk A.t_is_ring) (gnOk_by (N := N_is_ring) (sc := defScope (tS 52)) (by decide +kernel)) (by decide) (ri_seq (re_var 2)) (fun _ _ _ _ _ _ _ => rg_name (i := 3) C.nd) (fun _ _ _ _ _ _ _ => rts_nil) (fun _ _ _ _ _ _ _ C1 => re_cmp (o_ne C1.h64) (re_call A.d_sum_at.df (ok_sum_at A) C1 rfl (ra_cons (re_var 0) (ra_cons (re_var 3) (ra_nil)))) (re_int))))))
abbrev N_are_scheme : List Str := ["masks", "texts", "most", "number"]
theorem sc_are_scheme : FnScope N_are_scheme ["masks", "texts", "most"] (defScope (tS 53)) := ⟨rfl, rfl, rfl, by decide +kernel, rfl, by decide +kernel, by decide +kernel⟩
def c_are_scheme : List Val → M Val := cDef 4 (sSeq (sIf (cNot (cTru (cCall 2 c_keep_all (cCons (cVar 0) (cCons (cVar 1) (cNil)))))) (sRet (cK (.bool false))) (sNil)) (sRet (cGx false (cIterA iRange1 (cCons (cAp (g1 fLen) (cCons (cVar 0) (cNil))) (cNil))) [3] (gN 3) cYes (cCall 3 c_is_tame (cCons (cVar 0) (cCons (cVar 2) (cCons (cVar 3) (cNil))))))))
theorem ok_are_scheme (A : Facts K mg base T) : FO P w K T mg base 5 "are_scheme" ["masks", "texts", "most"] c_are_scheme :=
  fo (k := 4) A.d_are_scheme sc_are_scheme fun _ _ _ _ _ C => rss_cons (rs_if (rt_not (rt_tru (re_call A.d_keep_all.df (ok_keep_all A) C rfl (ra_cons (re_var 0) (ra_cons (re_var 1) (ra_nil)))))) (rss_one (rs_ret (re_bl))) (rss_nil))
      (rss_one (rs_ret (re_all (own := [("number", 3)]) C rfl A.b_all (tbOk A.t_are_scheme) (gnOk_by (N := N_are_scheme) (sc := defScope (tS 53)) (by decide +kernel)) (by decide) (ri_range1 rfl A.b_range (ra_cons (re_callB k_len rfl A.b_len b_len (ra_cons (re_var 0) (ra_nil))) (ra_nil))) (fun _ _ _ _ _ _ _ => rg_name (i := 3) C.nd) (fun _ _ _ _ _ _ _ => rts_nil) (fun _ _ _ _ _ _ _ C1 => re_call A.d_is_tame.df (ok_is_tame A) C1 rfl (ra_cons (re_var 0) (ra_cons (re_var 2) (ra_cons (re_var 3) (ra_nil))))))))
abbrev N_every_tablet : List Str := ["texts", "mask"]
theorem sc_every_tablet : FnScope N_every_tablet ["texts"] (defScope (tS 54)) := ⟨rfl, rfl, rfl, by decide +kernel, rfl, by decide +kernel, by decide +kernel⟩
def c_every_tablet : List Val → M Val := cDef 2 (sRet (cAp (g1 fSorted) (cCons (cLc (cIterA iRange1 (cCons (cOp (gD dShl) (cK (.int 1)) (cVar 0)) (cNil))) [1] (gN 1) (cYes) (cCall 1 c_tablet_of (cCons (cVar 1) (cNil)))) (cNil))))
theorem ok_every_tablet (A : Facts K mg base T) : FO P w K T mg base 2 "every_tablet" ["texts"] c_every_tablet :=
  fo (k := 1) A.d_every_tablet sc_every_tablet fun _ _ _ _ _ C => rss_one (rs_ret (re_callB (k_sorted C.h64) rfl A.b_sorted b_sorted (ra_cons (re_lc (own := [("mask", 1)]) C (ri_range1 rfl A.b_range (ra_cons (re_op o_shl (re_int) (re_var 0)) (ra_nil))) (blkOk_by (N := N_every_tablet) (sc := defScope (tS 54)) (by decide +kernel)) (by decide) (fun _ _ _ _ _ => rg_name (i := 1) C.nd) (fun _ _ _ _ _ => rts_nil) (fun _ _ _ _ _ => re_call A.d_tablet_of.df (ok_tablet_of A) (cok_blk C) rfl (ra_cons (re_var 1) (ra_nil)))) (ra_nil))))
abbrev N_sorted_rows : List Str := ["kinds", "many", "rows", "_", "row", "kind"]
theorem sc_sorted_rows : FnScope N_sorted_rows ["kinds", "many"] (defScope (tS 55)) := ⟨rfl, rfl, rfl, by decide +kernel, rfl, by decide +kernel, by decide +kernel⟩
def c_sorted_rows : List Val → M Val := cDef 6 (sSeq (sAsg (gN 2) (cAp gLst (cCons (cAp gTup (cNil)) (cNil)))) (sSeq (sFor (cIterA iRange1 (cCons (cVar 1) (cNil))) (gN 3) (sAsg (gN 2) (cLc2 (cIter iData (cVar 2)) [4, 5] (gN 4) (cYes) (cIter iData (cVar 0)) [5] (gN 5) (cOr (cNot (cTru (cVar 4))) (cTest (cOp (gD dLeT) (cOp gIx (cVar 4) (cNeg (cK (.int 1)))) (cVar 5)))) (cOp (gDM dAdd) (cVar 4) (cAp gTup (cCons (cVar 5) (cNil))))))) (sRet (cVar 2))))
theorem ok_sorted_rows (A : Facts K mg base T) : FO P w K T mg base 1 "sorted_rows" ["kinds", "many"] c_sorted_rows :=
  fo (k := 0) A.d_sorted_rows sc_sorted_rows fun _ _ _ _ _ C => rss_cons (rs_set (i := 2) C.nd (re_lst (ra_cons (re_tup (ra_nil)) (ra_nil))))
      (rss_cons (rs_for C (ri_range1 rfl A.b_range (ra_cons (re_var 1) (ra_nil))) (rg_name (i := 3) C.nd) (rss_one (rs_setLc2 (i := 2) (own := [("row", 4), ("kind", 5)]) C (vs1 := [5]) (ri_seq (re_var 2)) (blkOk_by (N := N_sorted_rows) (sc := defScope (tS 55)) (by decide +kernel)) (by decide) (by decide) (by decide) (fun _ _ _ _ _ => rg_name (i := 4) C.nd) (fun _ _ _ _ _ => rts_nil) (fun _ _ _ _ _ => ri_seq (re_var 0)) (fun _ _ _ _ _ => rg_name (i := 5) C.nd) (fun _ _ _ _ _ => rts_one (RW.rt (rw_or (rt_not (rt_tru (re_var 4))) (rw_or1 (rt_cmp (o_leT (cok_blk C).h0) (re_ix (re_var 4) (re_neg (re_int))) (re_var 5)))))) (fun _ _ _ _ _ => re_op o_add (re_var 4) (re_tup (ra_cons (re_var 5) (ra_nil)))))))
      (rss_one (rs_ret (re_var 2))))
abbrev N_least_tablets : List Str := ["texts", "most"]
theorem sc_least_tablets : FnScope N_least_tablets ["texts", "most"] (defScope (tS 56)) := ⟨rfl, rfl, rfl, by decide +kernel, rfl, by decide +kernel, by decide +kernel⟩
def c_least_tablets : List Val → M Val := cDef 2 (sRet (cOp (gDM dAdd) (cVar 0) (cOp (gD dFdiv) (cOp (gD dSub) (cOp (gDM dAdd) (cVar 0) (cVar 1)) (cK (.int 1))) (cVar 1))))
theorem ok_least_tablets (A : Facts K mg base T) : FO P w K T mg base 1 "least_tablets" ["texts", "most"] c_least_tablets :=
  fo (k := 0) A.d_least_tablets sc_least_tablets fun _ _ _ _ _ C => rss_one (rs_ret (re_op o_add (re_var 0) (re_op o_fdiv (re_op o_sub (re_op o_add (re_var 0) (re_var 1)) (re_int)) (re_var 1))))
abbrev N_tame : List Str := ["library", "most", "masks", "number"]
theorem sc_tame : FnScope N_tame ["library", "most"] (defScope (tS 57)) := ⟨rfl, rfl, rfl, by decide +kernel, rfl, by decide +kernel, by decide +kernel⟩
def c0_tame : List Val → M Val := cDef 4 (sSeq (sDrop (cCall 2 c_check_game (cCons (cVar 0) (cCons (cVar 1) (cNil))))) (sSeq (sAsg (gN 2) (cCall 1 c_masks_of (cCons (cVar 0) (cNil)))) (sRet (cAp (g1 fTup) (cCons (cLc (cIterA iRange1 (cCons (cAp (g1 fLen) (cCons (cVar 2) (cNil))) (cNil))) [3] (gN 3) (cTru (cCall 3 c_is_tame (cCons (cVar 2) (cCons (cVar 1) (cCons (cVar 3) (cNil)))))) (cVar 3)) (cNil))))))
def c_tame : List Val → M Val := cPure c0_tame
theorem ok_tame (A : Facts K mg base T) : FO P w K T mg base 8 "tame" ["library", "most"] c_tame :=
  fo_pure (fo (k := 7) A.d_tame sc_tame fun _ _ _ _ _ C => rss_cons (rs_expr (re_call A.d_check_game.df (ok_check_game A) C rfl (ra_cons (re_var 0) (ra_cons (re_var 1) (ra_nil)))))
      (rss_cons (rs_set (i := 2) C.nd (re_call A.d_masks_of.df (ok_masks_of A) C rfl (ra_cons (re_var 0) (ra_nil))))
      (rss_one (rs_ret (re_callTy k_tuple rfl A.b_tuple b_tuple (ra_cons (re_lc (own := [("number", 3)]) C (ri_range1 rfl A.b_range (ra_cons (re_callB k_len rfl A.b_len b_len (ra_cons (re_var 2) (ra_nil))) (ra_nil))) (blkOk_by (N := N_tame) (sc := defScope (tS 57)) (by decide +kernel)) (by decide) (fun _ _ _ _ _ => rg_name (i := 3) C.nd) (fun _ _ _ _ _ => rts_one (rt_tru (re_call A.d_is_tame.df (ok_is_tame A) (cok_blk C) rfl (ra_cons (re_var 2) (ra_cons (re_var 1) (ra_cons (re_var 3) (ra_nil))))))) (fun _ _ _ _ _ => re_var 3)) (ra_nil)))))))
abbrev N_rings : List Str := ["library", "most", "masks", "row"]
theorem sc_rings : FnScope N_rings ["library", "most"] (defScope (tS 58)) := ⟨rfl, rfl, rfl, by decide +kernel, rfl, by decide +kernel, by decide +kernel⟩
def c0_rings : List Val → M Val := cDef 4 (sSeq (sDrop (cCall 2 c_check_game (cCons (cVar 0) (cCons (cVar 1) (cNil))))) (sSeq (sAsg (gN 2) (cCall 1 c_masks_of (cCons (cVar 0) (cNil)))) (sRet (cAp (g1 fTup) (cCons (cLc (cIter iData (cCall 2 c_choices (cCons (cRg1 .list (cAp (g1 fLen) (cCons (cVar 2) (cNil)))) (cCons (cOp (gDM dAdd) (cVar 1) (cK (.int 1))) (cNil))))) [3] (gN 3) (cTru (cCall 2 c_is_ring (cCons (cVar 2) (cCons (cVar 3) (cNil))))) (cVar 3)) (cNil))))))
def c_rings : List Val → M Val := cPure c0_rings
theorem ok_rings (A : Facts K mg base T) : FO P w K T mg base 8 "rings" ["library", "most"] c_rings :=
  fo_pure (fo (k := 7) A.d_rings sc_rings fun _ _ _ _ _ C => rss_cons (rs_expr (re_call A.d_check_game.df (ok_check_game A) C rfl (ra_cons (re_var 0) (ra_cons (re_var 1) (ra_nil)))))
      (rss_cons (rs_set (i := 2) C.nd (re_call A.d_masks_of.df (ok_masks_of A) C rfl (ra_cons (re_var 0) (ra_nil))))
      (rss_one (rs_ret (re_callTy k_tuple rfl A.b_tuple b_tuple (ra_cons (re_lc (own := [("row", 3)]) C (ri_seq (re_call A.d_choices.df (ok_choices A) C rfl (ra_cons (re_listRg1 C rfl A.b_list rfl A.b_range (re_callB k_len rfl A.b_len b_len (ra_cons (re_var 2) (ra_nil)))) (ra_cons (re_op o_add (re_var 1) (re_int)) (ra_nil))))) (blkOk_by (N := N_rings) (sc := defScope (tS 58)) (by decide +kernel)) (by decide) (fun _ _ _ _ _ => rg_name (i := 3) C.nd) (fun _ _ _ _ _ => rts_one (rt_tru (re_call A.d_is_ring.df (ok_is_ring A) (cok_blk C) rfl (ra_cons (re_var 2) (ra_cons (re_var 3) (ra_nil)))))) (fun _ _ _ _ _ => re_var 3)) (ra_nil)))))))
abbrev N_is_scheme : List Str := ["library", "most"]
theorem sc_is_scheme : FnScope N_is_scheme ["library", "most"] (defScope (tS 59)) := ⟨rfl, rfl, rfl, by decide +kernel, rfl, by decide +kernel, by decide +kernel⟩
def c0_is_scheme : List Val → M Val := cDef 2 (sSeq (sDrop (cCall 2 c_check_game (cCons (cVar 0) (cCons (cVar 1) (cNil))))) (sRet (cCall 3 c_are_scheme (cCons (cCall 1 c_masks_of (cCons (cVar 0) (cNil))) (cCons (cOp gIx (cVar 0) (cK (.int 0))) (cCons (cVar 1) (cNil)))))))
def c_is_scheme : List Val → M Val := cPure c0_is_scheme
theorem ok_is_scheme (A : Facts K mg base T) : FO P w K T mg base 8 "is_scheme" ["library", "most"] c_is_scheme :=
  fo_pure (fo (k := 7) A.d_is_scheme sc_is_scheme fun _ _ _ _ _ C => rss_cons (rs_expr (re_call A.d_check_game.df (ok_check_game A) C rfl (ra_cons (re_var 0) (ra_cons (re_var 1) (ra_nil)))))
      (rss_one (rs_ret (re_call A.d_are_scheme.df (ok_are_scheme A) C rfl (ra_cons (re_call A.d_masks_of.df (ok_masks_of A) C rfl (ra_cons (re_var 0) (ra_nil))) (ra_cons (re_ix (re_var 0) (re_int)) (ra_cons (re_var 1) (ra_nil))))))))
abbrev N_can_be : List Str := ["texts", "tablets", "most"]
theorem sc_can_be : FnScope N_can_be ["texts", "tablets", "most"] (defScope (tS 60)) := ⟨rfl, rfl, rfl, by decide +kernel, rfl, by decide +kernel, by decide +kernel⟩
def c0_can_be : List Val → M Val := cDef 3 (sSeq (sDrop (cCall 2 c_check_counts (cCons (cVar 0) (cCons (cVar 1) (cNil))))) (sSeq (sDrop (cCall 1 c_check_most (cCons (cVar 2) (cNil)))) (sRet (cOp (gD dGe) (cVar 1) (cCall 2 c_least_tablets (cCons (cVar 0) (cCons (cVar 2) (cNil))))))))
def c_can_be : List Val → M Val := cPure c0_can_be
theorem ok_can_be (A : Facts K mg base T) : FO P w K T mg base 4 "can_be" ["texts", "tablets", "most"] c_can_be :=
  fo_pure (fo (k := 3) A.d_can_be sc_can_be fun _ _ _ _ _ C => rss_cons (rs_expr (re_call A.d_check_counts.df (ok_check_counts A) C rfl (ra_cons (re_var 0) (ra_cons (re_var 1) (ra_nil)))))
      (rss_cons (rs_expr (re_call A.d_check_most.df (ok_check_most A) C rfl (ra_cons (re_var 2) (ra_nil))))
      (rss_one (rs_ret (re_cmp o_ge (re_var 1) (re_call A.d_least_tablets.df (ok_least_tablets A) C rfl (ra_cons (re_var 0) (ra_cons (re_var 2) (ra_nil)))))))))
abbrev N_schemes : List Str := ["texts", "tablets", "most", "found", "row", "tablet"]
theorem sc_schemes : FnScope N_schemes ["texts", "tablets", "most"] (defScope (tS 61)) := ⟨rfl, rfl, rfl, by decide +kernel, rfl, by decide +kernel, by decide +kernel⟩
def c0_schemes : List Val → M Val := cDef 6 (sSeq (sDrop (cCall 2 c_check_counts (cCons (cVar 0) (cCons (cVar 1) (cNil))))) (sSeq (sDrop (cCall 1 c_check_most (cCons (cVar 2) (cNil)))) (sSeq (sAsg (gN 3) (cAp gNewL (cNil))) (sSeq (sFor (cIter iData (cCall 2 c_sorted_rows (cCons (cCall 1 c_every_tablet (cCons (cVar 0) (cNil))) (cCons (cVar 1) (cNil))))) (gN 4) (sIf (cTru (cCall 3 c_are_scheme (cCons (cLc (cIter iData (cVar 4)) [5] (gN 5) (cYes) (cCall 1 c_mask_of (cCons (cVar 5) (cNil)))) (cCons (cVar 0) (cCons (cVar 2) (cNil)))))) (sDrop (cMt isCl gApp (cVar 3) (cCons (cAp gTup (cCons (cVar 0) (cCons (cVar 4) (cNil)))) (cNil)))) (sNil))) (sRet (cAp (g1 fTup) (cCons (cVar 3) (cNil))))))))
def c_schemes : List Val → M Val := cPure c0_schemes
theorem ok_schemes (A : Facts K mg base T) : FO P w K T mg base 6 "schemes" ["texts", "tablets", "most"] c_schemes :=
  fo_pure (fo (k := 5) A.d_schemes sc_schemes fun _ _ _ _ _ C => rss_cons (rs_expr (re_call A.d_check_counts.df (ok_check_counts A) C rfl (ra_cons (re_var 0) (ra_cons (re_var 1) (ra_nil)))))
      (rss_cons (rs_expr (re_call A.d_check_most.df (ok_check_most A) C rfl (ra_cons (re_var 2) (ra_nil))))
      (rss_cons (rs_set (i := 3) C.nd (re_newL (ra_nil)))
      (rss_cons (rs_for C (ri_seq (re_call A.d_sorted_rows.df (ok_sorted_rows A) C rfl (ra_cons (re_call A.d_every_tablet.df (ok_every_tablet A) C rfl (ra_cons (re_var 0) (ra_nil))) (ra_cons (re_var 1) (ra_nil))))) (rg_name (i := 4) C.nd) (rss_one (rs_if (rt_tru (re_call A.d_are_scheme.df (ok_are_scheme A) C rfl (ra_cons (re_lc (own := [("tablet", 5)]) C (ri_seq (re_var 4)) (blkOk_by (N := N_schemes) (sc := defScope (tS 61)) (by decide +kernel)) (by decide) (fun _ _ _ _ _ => rg_name (i := 5) C.nd) (fun _ _ _ _ _ => rts_nil) (fun _ _ _ _ _ => re_call A.d_mask_of.df (ok_mask_of A) (cok_blk C) rfl (ra_cons (re_var 5) (ra_nil)))) (ra_cons (re_var 0) (ra_cons (re_var 2) (ra_nil)))))) (rss_one (rs_expr (re_append (re_var 3) (ra_cons (re_tup (ra_cons (re_var 0) (ra_cons (re_var 4) (ra_nil)))) (ra_nil))))) (rss_nil))))
      (rss_one (rs_ret (re_callTy k_tuple rfl A.b_tuple b_tuple (ra_cons (re_var 3) (ra_nil)))))))))
abbrev N_count_schemes : List Str := ["texts", "tablets", "most"]
theorem sc_count_schemes : FnScope N_count_schemes ["texts", "tablets", "most"] (defScope (tS 62)) := ⟨rfl, rfl, rfl, by decide +kernel, rfl, by decide +kernel, by decide +kernel⟩
def c0_count_schemes : List Val → M Val := cDef 3 (sRet (cAp (g1 fLen) (cCons (cCall 3 c_schemes (cCons (cVar 0) (cCons (cVar 1) (cCons (cVar 2) (cNil))))) (cNil))))
def c_count_schemes : List Val → M Val := cPure c0_count_schemes
theorem ok_count_schemes (A : Facts K mg base T) : FO P w K T mg base 7 "count_schemes" ["texts", "tablets", "most"] c_count_schemes :=
  fo_pure (fo (k := 6) A.d_count_schemes sc_count_schemes fun _ _ _ _ _ C => rss_one (rs_ret (re_callB k_len rfl A.b_len b_len (ra_cons (re_call A.d_schemes.df (ok_schemes A) C rfl (ra_cons (re_var 0) (ra_cons (re_var 1) (ra_cons (re_var 2) (ra_nil))))) (ra_nil)))))
abbrev N_fewest_tablets : List Str := ["texts", "most"]
theorem sc_fewest_tablets : FnScope N_fewest_tablets ["texts", "most"] (defScope (tS 63)) := ⟨rfl, rfl, rfl, by decide +kernel, rfl, by decide +kernel, by decide +kernel⟩
def c0_fewest_tablets : List Val → M Val := cDef 2 (sSeq (sDrop (cCall 3 c_check_number (cCons (cVar 0) (cCons (cK (.int 1)) (cCons (cK (.int 3)) (cNil)))))) (sSeq (sDrop (cCall 1 c_check_most (cCons (cVar 1) (cNil)))) (sRet (cCall 2 c_least_tablets (cCons (cVar 0) (cCons (cVar 1) (cNil)))))))
def c_fewest_tablets : List Val → M Val := cPure c0_fewest_tablets
theorem ok_fewest_tablets (A : Facts K mg base T) : FO P w K T mg base 3 "fewest_tablets" ["texts", "most"] c_fewest_tablets :=
  fo_pure (fo (k := 2) A.d_fewest_tablets sc_fewest_tablets fun _ _ _ _ _ C => rss_cons (rs_expr (re_call A.d_check_number.df (ok_check_number A) C rfl (ra_cons (re_var 0) (ra_cons (re_int) (ra_cons (re_gint rfl A.i_MOST_TEXTS) (ra_nil))))))
      (rss_cons (rs_expr (re_call A.d_check_most.df (ok_check_most A) C rfl (ra_cons (re_var 1) (ra_nil))))
      (rss_one (rs_ret (re_call A.d_least_tablets.df (ok_least_tablets A) C rfl (ra_cons (re_var 0) (ra_cons (re_var 1) (ra_nil))))))))
abbrev N_play_of : List Str := ["library", "most", "melts"]
theorem sc_play_of : FnScope N_play_of ["library", "most", "melts"] (defScope (tS 65)) := ⟨rfl, rfl, rfl, by decide +kernel, rfl, by decide +kernel, by decide +kernel⟩
def c_play_of : List Val → M Val := cDef 3 (sRet (cMake "Play" 5 c_Play_d_u__init_u_ (cCons (cAp gLst (cCons (cCall 1 c_state_of (cCons (cCall 1 c_masks_of (cCons (cVar 0) (cNil))) (cNil))) (cNil))) (cCons (cVar 1) (cCons (cOp gIx (cVar 0) (cK (.int 0))) (cCons (cVar 2) (cNil)))))))
theorem ok_play_of (A : Facts K mg base T) : FO P w K T mg base 6 "play_of" ["library", "most", "melts"] c_play_of :=
  fo (k := 5) A.d_play_of sc_play_of fun _ _ _ _ _ C => rss_one (rs_ret (re_make A.k_Play A.g_Play A.d_Play_d_u__init_u_.b (ok_Play_d_u__init_u_ A) C rfl (ra_cons (re_lst (ra_cons (re_call A.d_state_of.df (ok_state_of A) C rfl (ra_cons (re_call A.d_masks_of.df (ok_masks_of A) C rfl (ra_cons (re_var 0) (ra_nil))) (ra_nil))) (ra_nil))) (ra_cons (re_var 1) (ra_cons (re_ix (re_var 0) (re_int)) (ra_cons (re_var 2) (ra_nil)))))))
abbrev N_best_rows : List Str := ["lost", "masks", "most", "number", "rest", "rows", "days", "longest", "other", "row", "day"]
theorem sc_best_rows : FnScope N_best_rows ["lost", "masks", "most", "number"] (defScope (tS 66)) := ⟨rfl, rfl, rfl, by decide +kernel, rfl, by decide +kernel, by decide +kernel⟩
def c_best_rows : List Val → M Val := cDef 11 (sSeq (sAsg (gN 4) (cCall 2 c_without (cCons (cVar 1) (cCons (cVar 3) (cNil))))) (sSeq (sAsg (gN 5) (cCall 2 c_choices (cCons (cLc (cIterA iRange1 (cCons (cAp (g1 fLen) (cCons (cVar 1) (cNil))) (cNil))) [8] (gN 8) (cTest (cOp (gD dNe) (cVar 8) (cVar 3))) (cVar 8)) (cCons (cVar 2) (cNil))))) (sSeq (sAsg (gN 6) (cLc (cIter iData (cVar 5)) [9] (gN 9) (cYes) (cGet1 (cVar 0) (cCall 1 c_state_of (cCons (cAp gLst (cStar (cVar 4) (cCons (cCall 2 c_sum_at (cCons (cVar 1) (cCons (cVar 9) (cNil)))) (cNil)))) (cNil)))))) (sSeq (sIf (cTest (cOp (gD (dIn false)) (cK .none) (cVar 6))) (sRet (cLc (cIterA iZipF (cCons (cVar 5) (cCons (cVar 6) (cNil)))) [9, 10] (gTupT [gN 9, gN 10]) (cTest (cIsN true (cVar 10))) (cVar 9))) (sNil)) (sSeq (sAsg (gN 7) (cAp (g1 fMax1) (cCons (cVar 6) (cNil)))) (sRet (cLc (cIterA iZipF (cCons (cVar 5) (cCons (cVar 6) (cNil)))) [9, 10] (gTupT [gN 9, gN 10]) (cTest (cOp (gD dEq) (cVar 10) (cVar 7))) (cVar 9))))))))
theorem ok_best_rows (A : Facts K mg base T) : FO P w K T mg base 2 "best_rows" ["lost", "masks", "most", "number"] c_best_rows :=
  fo (k := 1) A.d_best_rows sc_best_rows fun _ _ _ _ _ C => rss_cons (rs_set (i := 4) C.nd (re_call A.d_without.df (ok_without A) C rfl (ra_cons (re_var 1) (ra_cons (re_var 3) (ra_nil)))))
      (rss_cons (rs_set (i := 5) C.nd (re_call A.d_choices.df (ok_choices A) C rfl (ra_cons (re_lc (own := [("other", 8)]) C (ri_range1 rfl A.b_range (ra_cons (re_callB k_len rfl A.b_len b_len (ra_cons (re_var 1) (ra_nil))) (ra_nil))) (blkOk_by (N := N_best_rows) (sc := defScope (tS 66)) (by decide +kernel)) (by decide) (fun _ _ _ _ _ => rg_name (i := 8) C.nd) (fun _ _ _ _ _ => rts_one (rt_cmp (o_ne (cok_blk C).h64) (re_var 8) (re_var 3))) (fun _ _ _ _ _ => re_var 8)) (ra_cons (re_var 2) (ra_nil)))))
      (rss_cons (rs_setLc (i := 6) (own := [("row", 9)]) C (ri_seq (re_var 5)) (blkOk_by (N := N_best_rows) (sc := defScope (tS 66)) (by decide +kernel)) (by decide) (fun _ _ _ _ _ => rg_name (i := 9) C.nd) (fun _ _ _ _ _ => rts_nil) (fun _ _ _ _ _ => re_get1 (cok_blk C).h1 (re_var 0) (re_call A.d_state_of.df (ok_state_of A) (cok_blk C) rfl (ra_cons (re_lst (ra_star (re_var 4) (ra_cons (re_call A.d_sum_at.df (ok_sum_at A) (cok_blk C) rfl (ra_cons (re_var 1) (ra_cons (re_var 9) (ra_nil)))) (ra_nil)))) (ra_nil)))))
      (rss_cons (rs_if (rt_cmp (o_in C.h65) (re_non) (re_var 6)) (rss_one (rs_ret (re_lc (own := [("row", 9), ("day", 10)]) C (ri_zip rfl A.b_zip (ra_cons (re_var 5) (ra_cons (re_var 6) (ra_nil)))) (blkOk_by (N := N_best_rows) (sc := defScope (tS 66)) (by decide +kernel)) (by decide) (fun _ _ _ _ _ => rg_tup C.calm (rgs_cons (rg_name (i := 9) C.nd) (rgs_cons (rg_name (i := 10) C.nd) (rgs_nil)))) (fun _ _ _ _ _ => rts_one (rt_isN (re_var 10))) (fun _ _ _ _ _ => re_var 9)))) (rss_nil))
      (rss_cons (rs_set (i := 7) C.nd (re_callB (k_max1 C.calm C.h64) rfl A.b_max b_max (ra_cons (re_var 6) (ra_nil))))
      (rss_one (rs_ret (re_lc (own := [("row", 9), ("day", 10)]) C (ri_zip rfl A.b_zip (ra_cons (re_var 5) (ra_cons (re_var 6) (ra_nil)))) (blkOk_by (N := N_best_rows) (sc := defScope (tS 66)) (by decide +kernel)) (by decide) (fun _ _ _ _ _ => rg_tup C.calm (rgs_cons (rg_name (i := 9) C.nd) (rgs_cons (rg_name (i := 10) C.nd) (rgs_nil)))) (fun _ _ _ _ _ => rts_one (rt_cmp (o_eq (cok_blk C).h64) (re_var 10) (re_var 7))) (fun _ _ _ _ _ => re_var 9))))))))
abbrev N_soonest_loss : List Str := ["library", "most", "melts", "masks"]
theorem sc_soonest_loss : FnScope N_soonest_loss ["library", "most", "melts"] (defScope (tS 67)) := ⟨rfl, rfl, rfl, by decide +kernel, rfl, by decide +kernel, by decide +kernel⟩
def c_soonest_loss : List Val → M Val := cDef 4 (sSeq (sAsg (gN 3) (cCall 1 c_masks_of (cCons (cVar 0) (cNil)))) (sSeq (sIf (cNot (cTru (cCall 2 c_keep_all (cCons (cVar 3) (cCons (cOp gIx (cVar 0) (cK (.int 0))) (cNil)))))) (sRet (cK (.int 0))) (sNil)) (sRet (cGet1 (cCall 1 c_days_lost (cCons (cCall 3 c_play_of (cCons (cVar 0) (cCons (cVar 1) (cCons (cVar 2) (cNil))))) (cNil))) (cCall 1 c_state_of (cCons (cVar 3) (cNil)))))))
theorem ok_soonest_loss (A : Facts K mg base T) : FO P w K T mg base 7 "soonest_loss" ["library", "most", "melts"] c_soonest_loss :=
  fo (k := 6) A.d_soonest_loss sc_soonest_loss fun _ _ _ _ _ C => rss_cons (rs_set (i := 3) C.nd (re_call A.d_masks_of.df (ok_masks_of A) C rfl (ra_cons (re_var 0) (ra_nil))))
      (rss_cons (rs_if (rt_not (rt_tru (re_call A.d_keep_all.df (ok_keep_all A) C rfl (ra_cons (re_var 3) (ra_cons (re_ix (re_var 0) (re_int)) (ra_nil)))))) (rss_one (rs_ret (re_int))) (rss_nil))
      (rss_one (rs_ret (re_get1 C.h1 (re_call A.d_days_lost.df (ok_days_lost A) C rfl (ra_cons (re_call A.d_play_of.df (ok_play_of A) C rfl (ra_cons (re_var 0) (ra_cons (re_var 1) (ra_cons (re_var 2) (ra_nil))))) (ra_nil))) (re_call A.d_state_of.df (ok_state_of A) C rfl (ra_cons (re_var 3) (ra_nil)))))))
abbrev N_lost_within : List Str := ["library", "most"]
theorem sc_lost_within : FnScope N_lost_within ["library", "most"] (defScope (tS 68)) := ⟨rfl, rfl, rfl, by decide +kernel, rfl, by decide +kernel, by decide +kernel⟩
def c0_lost_within : List Val → M Val := cDef 2 (sSeq (sDrop (cCall 2 c_check_game (cCons (cVar 0) (cCons (cVar 1) (cNil))))) (sRet (cCall 3 c_soonest_loss (cCons (cVar 0) (cCons (cVar 1) (cCons (cK (.int 1)) (cNil)))))))
def c_lost_within : List Val → M Val := cPure c0_lost_within
theorem ok_lost_within (A : Facts K mg base T) : FO P w K T mg base 8 "lost_within" ["library", "most"] c_lost_within :=
  fo_pure (fo (k := 7) A.d_lost_within sc_lost_within fun _ _ _ _ _ C => rss_cons (rs_expr (re_call A.d_check_game.df (ok_check_game A) C rfl (ra_cons (re_var 0) (ra_cons (re_var 1) (ra_nil)))))
      (rss_one (rs_ret (re_call A.d_soonest_loss.df (ok_soonest_loss A) C rfl (ra_cons (re_var 0) (ra_cons (re_var 1) (ra_cons (re_int) (ra_nil))))))))
abbrev N_kept_for_ever : List Str := ["library", "most"]
theorem sc_kept_for_ever : FnScope N_kept_for_ever ["library", "most"] (defScope (tS 69)) := ⟨rfl, rfl, rfl, by decide +kernel, rfl, by decide +kernel, by decide +kernel⟩
def c0_kept_for_ever : List Val → M Val := cDef 2 (sRet (cIsN true (cCall 2 c_lost_within (cCons (cVar 0) (cCons (cVar 1) (cNil))))))
def c_kept_for_ever : List Val → M Val := cPure c0_kept_for_ever
theorem ok_kept_for_ever (A : Facts K mg base T) : FO P w K T mg base 9 "kept_for_ever" ["library", "most"] c_kept_for_ever :=
  fo_pure (fo (k := 8) A.d_kept_for_ever sc_kept_for_ever fun _ _ _ _ _ C => rss_one (rs_ret (re_isN (re_call A.d_lost_within.df (ok_lost_within A) C rfl (ra_cons (re_var 0) (ra_cons (re_var 1) (ra_nil)))))))
abbrev N_good_writings : List Str := ["library", "most", "number", "masks"]
theorem sc_good_writings : FnScope N_good_writings ["library", "most", "number"] (defScope (tS 70)) := ⟨rfl, rfl, rfl, by decide +kernel, rfl, by decide +kernel, by decide +kernel⟩
def c0_good_writings : List Val → M Val := cDef 4 (sSeq (sDrop (cCall 2 c_check_game (cCons (cVar 0) (cCons (cVar 1) (cNil))))) (sSeq (sDrop (cCall 2 c_check_tablet (cCons (cVar 2) (cCons (cAp (g1 fLen) (cCons (cOp gIx (cVar 0) (cK (.int 1))) (cNil))) (cNil))))) (sSeq (sAsg (gN 3) (cCall 1 c_masks_of (cCons (cVar 0) (cNil)))) (sSeq (sIf (cNot (cTru (cCall 2 c_keep_all (cCons (cCall 2 c_without (cCons (cVar 3) (cCons (cVar 2) (cNil)))) (cCons (cOp gIx (cVar 0) (cK (.int 0))) (cNil)))))) (sRet (cAp gTup (cNil))) (sNil)) (sRet (cAp (g1 fTup) (cCons (cCall 4 c_best_rows (cCons (cCall 1 c_days_lost (cCons (cCall 3 c_play_of (cCons (cVar 0) (cCons (cVar 1) (cCons (cK (.int 1)) (cNil))))) (cNil))) (cCons (cVar 3) (cCons (cVar 1) (cCons (cVar 2) (cNil)))))) (cNil))))))))
def c_good_writings : List Val → M Val := cPure c0_good_writings
theorem ok_good_writings (A : Facts K mg base T) : FO P w K T mg base 8 "good_writings" ["library", "most", "number"] c_good_writings :=
  fo_pure (fo (k := 7) A.d_good_writings sc_good_writings fun _ _ _ _ _ C => rss_cons (rs_expr (re_call A.d_check_game.df (ok_check_game A) C rfl (ra_cons (re_var 0) (ra_cons (re_var 1) (ra_nil)))))
      (rss_cons (rs_expr (re_call A.d_check_tablet.df (ok_check_tablet A) C rfl (ra_cons (re_var 2) (ra_cons (re_callB k_len rfl A.b_len b_len (ra_cons (re_ix (re_var 0) (re_int)) (ra_nil))) (ra_nil)))))
      (rss_cons (rs_set (i := 3) C.nd (re_call A.d_masks_of.df (ok_masks_of A) C rfl (ra_cons (re_var 0) (ra_nil))))
      (rss_cons (rs_if (rt_not (rt_tru (re_call A.d_keep_all.df (ok_keep_all A) C rfl (ra_cons (re_call A.d_without.df (ok_without A) C rfl (ra_cons (re_var 3) (ra_cons (re_var 2) (ra_nil)))) (ra_cons (re_ix (re_var 0) (re_int)) (ra_nil)))))) (rss_one (rs_ret (re_tup (ra_nil)))) (rss_nil))
      (rss_one (rs_ret (re_callTy k_tuple rfl A.b_tuple b_tuple (ra_cons (re_call A.d_best_rows.df (ok_best_rows A) C rfl (ra_cons (re_call A.d_days_lost.df (ok_days_lost A) C rfl (ra_cons (re_call A.d_play_of.df (ok_play_of A) C rfl (ra_cons (re_var 0) (ra_cons (re_var 1) (ra_cons (re_int) (ra_nil))))) (ra_nil))) (ra_cons (re_var 3) (ra_cons (re_var 1) (ra_cons (re_var 2) (ra_nil)))))) (ra_nil)))))))))
abbrev N_is_lost_within : List Str := ["play", "lost", "rest", "days", "state"]
theorem sc_is_lost_within : FnScope N_is_lost_within ["play", "lost", "rest", "days"] (defScope (tS 71)) := ⟨rfl, rfl, rfl, by decide +kernel, rfl, by decide +kernel, by decide +kernel⟩
def c_is_lost_within : List Val → M Val := cDef 5 (sRet (cGx false (cIter iData (cOp gDGet (cFld "Play" "states" (cVar 0)) (cVar 2))) [4] (gN 4) cYes (cAndV (cOp gDIn (cVar 4) (cVar 1)) (cOp (gD dLe) (cOp gDGet (cVar 1) (cVar 4)) (cVar 3)))))
theorem ok_is_lost_within (A : Facts K mg base T) : FO P w K T mg base 2 "is_lost_within" ["play", "lost", "rest", "days"] c_is_lost_within :=
  fo (k := 1) A.d_is_lost_within sc_is_lost_within fun _ _ _ _ _ C => rss_one (rs_ret (re_all (own := [("state", 4)]) C rfl A.b_all (tbOk A.t_is_lost_within) (gnOk_by (N := N_is_lost_within) (sc := defScope (tS 71)) (by decide +kernel)) (by decide) (ri_seq (re_dget C.h1 (re_fld A.c_Play A.n_Play_states (re_var 0)) (re_var 2))) (fun _ _ _ _ _ _ _ => rg_name (i := 4) C.nd) (fun _ _ _ _ _ _ _ => rts_nil) (fun _ _ _ _ _ _ _ C1 => re_and (re_din C1.h1 (re_var 4) (re_var 1)) (re_one (re_cmp o_le (re_dget C1.h1 (re_var 1) (re_var 4)) (re_var 3))))))
abbrev N_soonest_lost : List Str := ["play", "lost", "masks", "days", "rests", "number", "rest"]
theorem sc_soonest_lost : FnScope N_soonest_lost ["play", "lost", "masks", "days"] (defScope (tS 72)) := ⟨rfl, rfl, rfl, by decide +kernel, rfl, by decide +kernel, by decide +kernel⟩
def c_soonest_lost : List Val → M Val := cDef 7 (sSeq (sAsg (gN 4) (cLc (cIterA iRange1 (cCons (cAp (g1 fLen) (cCons (cVar 2) (cNil))) (cNil))) [5] (gN 5) (cYes) (cCall 1 c_state_of (cCons (cCall 2 c_without (cCons (cVar 2) (cCons (cVar 5) (cNil)))) (cNil))))) (sRet (cAp (g1 fMinL) (cCons (cLc (cIterA iEnumF (cCons (cVar 4) (cNil))) [5, 6] (gTupT [gN 5, gN 6]) (cTru (cCall 4 c_is_lost_within (cCons (cVar 0) (cCons (cVar 1) (cCons (cVar 6) (cCons (cVar 3) (cNil))))))) (cVar 5)) (cNil)))))
theorem ok_soonest_lost (A : Facts K mg base T) : FO P w K T mg base 3 "soonest_lost" ["play", "lost", "masks", "days"] c_soonest_lost :=
  fo (k := 2) A.d_soonest_lost sc_soonest_lost fun _ _ _ _ _ C => rss_cons (rs_setLc (i := 4) (own := [("number", 5)]) C (ri_range1 rfl A.b_range (ra_cons (re_callB k_len rfl A.b_len b_len (ra_cons (re_var 2) (ra_nil))) (ra_nil))) (blkOk_by (N := N_soonest_lost) (sc := defScope (tS 72)) (by decide +kernel)) (by decide) (fun _ _ _ _ _ => rg_name (i := 5) C.nd) (fun _ _ _ _ _ => rts_nil) (fun _ _ _ _ _ => re_call A.d_state_of.df (ok_state_of A) (cok_blk C) rfl (ra_cons (re_call A.d_without.df (ok_without A) (cok_blk C) rfl (ra_cons (re_var 2) (ra_cons (re_var 5) (ra_nil)))) (ra_nil))))
      (rss_one (rs_ret (re_callB (k_minL C.calm) rfl A.b_min b_min (ra_cons (re_lc (own := [("number", 5), ("rest", 6)]) C (ri_enum rfl A.b_enumerate (ra_cons (re_var 4) (ra_nil))) (blkOk_by (N := N_soonest_lost) (sc := defScope (tS 72)) (by decide +kernel)) (by decide) (fun _ _ _ _ _ => rg_tup C.calm (rgs_cons (rg_name (i := 5) C.nd) (rgs_cons (rg_name (i := 6) C.nd) (rgs_nil)))) (fun _ _ _ _ _ => rts_one (rt_tru (re_call A.d_is_lost_within.df (ok_is_lost_within A) (cok_blk C) rfl (ra_cons (re_var 0) (ra_cons (re_var 1) (ra_cons (re_var 6) (ra_cons (re_var 3) (ra_nil)))))))) (fun _ _ _ _ _ => re_var 5)) (ra_nil)))))
abbrev N_downfall : List Str := ["library", "most", "masks", "play", "lost", "start", "days", "left", "number", "row"]
theorem sc_downfall : FnScope N_downfall ["library", "most"] (defScope (tS 73)) := ⟨rfl, rfl, rfl, by decide +kernel, rfl, by decide +kernel, by decide +kernel⟩
def c0_downfall : List Val → M Val := cDef 10 (sSeq (sDrop (cCall 2 c_check_game (cCons (cVar 0) (cCons (cVar 1) (cNil))))) (sSeq (sAsg (gN 2) (cCall 1 c_masks_of_N (cCons (cVar 0) (cNil)))) (sSeq (sIf (cNot (cTru (cLockL (pSlot 2) (cCall 2 c_keep_all (cCons (cVar 2) (cCons (cOp gIx (cVar 0) (cK (.int 0))) (cNil))))))) (sRet (cAp gTup (cNil))) (sNil)) (sSeq (sAsg (gN 3) (cCall 3 c_play_of (cCons (cVar 0) (cCons (cVar 1) (cCons (cK (.int 1)) (cNil)))))) (sSeq (sAsg (gN 4) (cCall 1 c_days_lost (cCons (cVar 3) (cNil)))) (sSeq (sAsg (gN 5) (cCall 1 c_state_of (cCons (cVar 2) (cNil)))) (sSeq (sIf (cTest (cOp gDNotIn (cVar 5) (cVar 4))) (sRet (cK .none)) (sNil)) (sSeq (sAsg (gN 6) (cAp gNewL (cNil))) (sSeq (sFor (cIter iRevR1 (cOp gDGet (cVar 4) (cVar 5))) (gN 7) (sSeq (sAsg (gN 8) (cCall 4 c_soonest_lost (cCons (cVar 3) (cCons (cVar 4) (cCons (cVar 2) (cCons (cVar 7) (cNil))))))) (sSeq (sAsg (gN 9) (cIfE (cTest (cOp (gD dGt) (cVar 7) (cK (.int 0)))) (cOp gIx (cCall 4 c_best_rows (cCons (cVar 4) (cCons (cVar 2) (cCons (cVar 1) (cCons (cVar 8) (cNil)))))) (cK (.int 0))) (cAp gTup (cNil)))) (sSeq (sDrop (cMt isCl gApp (cVar 6) (cCons (cAp gTup (cCons (cVar 8) (cCons (cVar 9) (cNil)))) (cNil)))) (sStore setC (cVar 2) (cVar 8) (cCall 2 c_sum_at (cCons (cVar 2) (cCons (cVar 9) (cNil))))))))) (sRet (cAp (g1 fTup) (cCons (cVar 6) (cNil)))))))))))))
def c_downfall : List Val → M Val := cPure c0_downfall
theorem ok_downfall (A : Facts K mg base T) : FO P w K T mg base 8 "downfall" ["library", "most"] c_downfall :=
  fo_pure (fo (k := 7) A.d_downfall sc_downfall fun _ _ _ _ _ C => rss_cons (rs_expr (re_call A.d_check_game.df (ok_check_game A) C rfl (ra_cons (re_var 0) (ra_cons (re_var 1) (ra_nil)))))
      (rss_cons (rs_set (i := 2) C.nd (re_call A.d_masks_of.df (ok_masks_of_N A) C rfl (ra_cons (re_var 0) (ra_nil))))
      (rss_cons (rs_if (rt_not (rt_tru (re_lockL (pSlot 2) (re_call A.d_keep_all.df (ok_keep_all A) C rfl (ra_cons (re_var 2) (ra_cons (re_ix (re_var 0) (re_int)) (ra_nil))))))) (rss_one (rs_ret (re_tup (ra_nil)))) (rss_nil))
      (rss_cons (rs_set (i := 3) C.nd (re_call A.d_play_of.df (ok_play_of A) C rfl (ra_cons (re_var 0) (ra_cons (re_var 1) (ra_cons (re_int) (ra_nil))))))
      (rss_cons (rs_set (i := 4) C.nd (re_call A.d_days_lost.df (ok_days_lost A) C rfl (ra_cons (re_var 3) (ra_nil))))
      (rss_cons (rs_set (i := 5) C.nd (re_call A.d_state_of.df (ok_state_of A) C rfl (ra_cons (re_var 2) (ra_nil))))
      (rss_cons (rs_if (rt_dnotin C.h1 (re_var 5) (re_var 4)) (rss_one (rs_ret (re_non))) (rss_nil))
      (rss_cons (rs_set (i := 6) C.nd (re_newL (ra_nil)))
      (rss_cons (rs_for C (ri_revR1 rfl A.b_reversed rfl A.b_range (re_dget C.h1 (re_var 4) (re_var 5))) (rg_name (i := 7) C.nd) (rss_cons (rs_set (i := 8) C.nd (re_call A.d_soonest_lost.df (ok_soonest_lost A) C rfl (ra_cons (re_var 3) (ra_cons (re_var 4) (ra_cons (re_var 2) (ra_cons (re_var 7) (ra_nil)))))))
      (rss_cons (rs_set (i := 9) C.nd (re_ifE (rt_cmp o_gt (re_var 7) (re_int)) (re_ix (re_call A.d_best_rows.df (ok_best_rows A) C rfl (ra_cons (re_var 4) (ra_cons (re_var 2) (ra_cons (re_var 1) (ra_cons (re_var 8) (ra_nil)))))) (re_int)) (re_tup (ra_nil))))
      (rss_cons (rs_expr (re_append (re_var 6) (ra_cons (re_tup (ra_cons (re_var 8) (ra_cons (re_var 9) (ra_nil)))) (ra_nil))))
      (rss_one (rs_store (re_call A.d_sum_at.df (ok_sum_at A) C rfl (ra_cons (re_var 2) (ra_cons (re_var 9) (ra_nil)))) (re_var 2) (re_var 8) st_list))))))
      (rss_one (rs_ret (re_callTy k_tuple rfl A.b_tuple b_tuple (ra_cons (re_var 6) (ra_nil))))))))))))))
abbrev N_is_rank_kept : List Str := ["masks", "most", "goal", "start"]
theorem sc_is_rank_kept : FnScope N_is_rank_kept ["masks", "most", "goal"] (defScope (tS 74)) := ⟨rfl, rfl, rfl, by decide +kernel, rfl, by decide +kernel, by decide +kernel⟩
def c_is_rank_kept : List Val → M Val := cDef 4 (sSeq (sAsg (gN 3) (cCall 1 c_state_of (cCons (cVar 0) (cNil)))) (sRet (cOp gDNotIn (cVar 3) (cCall 1 c_days_lost (cCons (cMake "Play" 5 c_Play_d_u__init_u_ (cCons (cAp gLst (cCons (cVar 3) (cNil))) (cCons (cVar 1) (cCons (cVar 2) (cCons (cK (.int 1)) (cNil)))))) (cNil))))))
theorem ok_is_rank_kept (A : Facts K mg base T) : FO P w K T mg base 6 "is_rank_kept" ["masks", "most", "goal"] c_is_rank_kept :=
  fo (k := 5) A.d_is_rank_kept sc_is_rank_kept fun _ _ _ _ _ C => rss_cons (rs_set (i := 3) C.nd (re_call A.d_state_of.df (ok_state_of A) C rfl (ra_cons (re_var 0) (ra_nil))))
      (rss_one (rs_ret (re_dnotin C.h1 (re_var 3) (re_call A.d_days_lost.df (ok_days_lost A) C rfl (ra_cons (re_make A.k_Play A.g_Play A.d_Play_d_u__init_u_.b (ok_Play_d_u__init_u_ A) C rfl (ra_cons (re_lst (ra_cons (re_var 3) (ra_nil))) (ra_cons (re_var 1) (ra_cons (re_var 2) (ra_cons (re_int) (ra_nil)))))) (ra_nil))))))
abbrev N_rank_kept : List Str := ["library", "most", "masks", "goal"]
theorem sc_rank_kept : FnScope N_rank_kept ["library", "most"] (defScope (tS 75)) := ⟨rfl, rfl, rfl, by decide +kernel, rfl, by decide +kernel, by decide +kernel⟩
def c0_rank_kept : List Val → M Val := cDef 4 (sSeq (sDrop (cCall 2 c_check_game (cCons (cVar 0) (cCons (cVar 1) (cNil))))) (sSeq (sAsg (gN 2) (cCall 1 c_masks_of (cCons (cVar 0) (cNil)))) (sSeq (sAsg (gN 3) (cCall 1 c_rank_of (cCons (cVar 2) (cNil)))) (sSeq (whileN (cNot (cTru (cCall 3 c_is_rank_kept (cCons (cVar 2) (cCons (cVar 1) (cCons (cVar 3) (cNil))))))) (sAug 3 (fun i j => i - j) (cK (.int 1))) 12) (sRet (cVar 3))))))
def c_rank_kept : List Val → M Val := cPure c0_rank_kept
theorem ok_rank_kept (A : Facts K mg base T) : FO P w K T mg base 8 "rank_kept" ["library", "most"] c_rank_kept :=
  fo_pure (fo (k := 7) A.d_rank_kept sc_rank_kept fun _ _ _ _ _ C => rss_cons (rs_expr (re_call A.d_check_game.df (ok_check_game A) C rfl (ra_cons (re_var 0) (ra_cons (re_var 1) (ra_nil)))))
      (rss_cons (rs_set (i := 2) C.nd (re_call A.d_masks_of.df (ok_masks_of A) C rfl (ra_cons (re_var 0) (ra_nil))))
      (rss_cons (rs_set (i := 3) C.nd (re_call A.d_rank_of.df (ok_rank_of A) C rfl (ra_cons (re_var 2) (ra_nil))))
      (rss_cons (rs_while 12 C (rt_not (rt_tru (re_call A.d_is_rank_kept.df (ok_is_rank_kept A) C rfl (ra_cons (re_var 2) (ra_cons (re_var 1) (ra_cons (re_var 3) (ra_nil))))))) (rss_one (rs_augI (i := 3) C.nd ip_sub (re_int))))
      (rss_one (rs_ret (re_var 3)))))))
abbrev N_kept_additions : List Str := ["library", "most", "many", "texts", "tablets", "rows", "starts", "lost", "tablet", "row", "start"]
theorem sc_kept_additions : FnScope N_kept_additions ["library", "most", "many"] (defScope (tS 76)) := ⟨rfl, rfl, rfl, by decide +kernel, rfl, by decide +kernel, by decide +kernel⟩
def c_kept_additions : List Val → M Val := cDef 11 (sSeq (sAsg (gTupT [gN 3, gN 4]) (cVar 0)) (sSeq (sAsg (gN 5) (cCall 2 c_sorted_rows (cCons (cCall 1 c_every_tablet (cCons (cVar 3) (cNil))) (cCons (cVar 2) (cNil))))) (sSeq (sAsg (gN 6) (cLc (cIter iData (cVar 5)) [9] (gN 9) (cYes) (cCall 1 c_state_of (cCons (cLc (cIter iData (cOp (gDM dAdd) (cVar 4) (cVar 9))) [8] (gN 8) (cYes) (cCall 1 c_mask_of (cCons (cVar 8) (cNil)))) (cNil))))) (sSeq (sAsg (gN 7) (cCall 1 c_days_lost (cCons (cMake "Play" 5 c_Play_d_u__init_u_ (cCons (cVar 6) (cCons (cVar 1) (cCons (cVar 3) (cCons (cK (.int 1)) (cNil)))))) (cNil)))) (sRet (cLc (cIterA iZipF (cCons (cVar 5) (cCons (cVar 6) (cNil)))) [9, 10] (gTupT [gN 9, gN 10]) (cTest (cOp gDNotIn (cVar 10) (cVar 7))) (cVar 9)))))))
theorem ok_kept_additions (A : Facts K mg base T) : FO P w K T mg base 6 "kept_additions" ["library", "most", "many"] c_kept_additions :=
  fo (k := 5) A.d_kept_additions sc_kept_additions fun _ _ _ _ _ C => rss_cons (rs_asg (re_var 0) (rg_tup C.calm (rgs_cons (rg_name (i := 3) C.nd) (rgs_cons (rg_name (i := 4) C.nd) (rgs_nil)))))
      (rss_cons (rs_set (i := 5) C.nd (re_call A.d_sorted_rows.df (ok_sorted_rows A) C rfl (ra_cons (re_call A.d_every_tablet.df (ok_every_tablet A) C rfl (ra_cons (re_var 3) (ra_nil))) (ra_cons (re_var 2) (ra_nil)))))
      (rss_cons (rs_setLc (i := 6) (own := [("row", 9)]) C (ri_seq (re_var 5)) (blkOk_by (N := N_kept_additions) (sc := defScope (tS 76)) (by decide +kernel)) (by decide) (fun _ _ _ _ _ => rg_name (i := 9) C.nd) (fun _ _ _ _ _ => rts_nil) (fun _ _ _ _ _ => re_call A.d_state_of.df (ok_state_of A) (cok_blk C) rfl (ra_cons (re_lc (own := [("tablet", 8)]) (cok_blk C) (ri_seq (re_op o_add (re_var 4) (re_var 9))) (blkOk_by (N := N_kept_additions) (sc := relS _ (defScope (tS 76))) (by decide +kernel)) (by decide) (fun _ _ _ _ _ => rg_name (i := 8) (cok_blk C).nd) (fun _ _ _ _ _ => rts_nil) (fun _ _ _ _ _ => re_call A.d_mask_of.df (ok_mask_of A) (cok_blk (cok_blk C)) rfl (ra_cons (re_var 8) (ra_nil)))) (ra_nil))))
      (rss_cons (rs_set (i := 7) C.nd (re_call A.d_days_lost.df (ok_days_lost A) C rfl (ra_cons (re_make A.k_Play A.g_Play A.d_Play_d_u__init_u_.b (ok_Play_d_u__init_u_ A) C rfl (ra_cons (re_var 6) (ra_cons (re_var 1) (ra_cons (re_var 3) (ra_cons (re_int) (ra_nil)))))) (ra_nil))))
      (rss_one (rs_ret (re_lc (own := [("row", 9), ("start", 10)]) C (ri_zip rfl A.b_zip (ra_cons (re_var 5) (ra_cons (re_var 6) (ra_nil)))) (blkOk_by (N := N_kept_additions) (sc := defScope (tS 76)) (by decide +kernel)) (by decide) (fun _ _ _ _ _ => rg_tup C.calm (rgs_cons (rg_name (i := 9) C.nd) (rgs_cons (rg_name (i := 10) C.nd) (rgs_nil)))) (fun _ _ _ _ _ => rts_one (rt_dnotin (cok_blk C).h1 (re_var 10) (re_var 7))) (fun _ _ _ _ _ => re_var 9)))))))
abbrev N_additions : List Str := ["library", "most", "many", "rows"]
theorem sc_additions : FnScope N_additions ["library", "most"] (defScope (tS 77)) := ⟨rfl, rfl, rfl, by decide +kernel, rfl, by decide +kernel, by decide +kernel⟩
def c0_additions : List Val → M Val := cDef 4 (sSeq (sDrop (cCall 2 c_check_game (cCons (cVar 0) (cCons (cVar 1) (cNil))))) (sSeq (sFor (cIterA iRange1 (cCons (cOp (gDM dAdd) (cOp (gD dSub) (cK (.int 6)) (cAp (g1 fLen) (cCons (cOp gIx (cVar 0) (cK (.int 1))) (cNil)))) (cK (.int 1))) (cNil))) (gN 2) (sSeq (sAsg (gN 3) (cCall 3 c_kept_additions (cCons (cVar 0) (cCons (cVar 1) (cCons (cVar 2) (cNil)))))) (sIf (cTru (cVar 3)) (sRet (cAp (g1 fTup) (cCons (cVar 3) (cNil)))) (sNil)))) (sRet (cAp gTup (cNil)))))
def c_additions : List Val → M Val := cPure c0_additions
theorem ok_additions (A : Facts K mg base T) : FO P w K T mg base 8 "additions" ["library", "most"] c_additions :=
  fo_pure (fo (k := 7) A.d_additions sc_additions fun _ _ _ _ _ C => rss_cons (rs_expr (re_call A.d_check_game.df (ok_check_game A) C rfl (ra_cons (re_var 0) (ra_cons (re_var 1) (ra_nil)))))
      (rss_cons (rs_for C (ri_range1 rfl A.b_range (ra_cons (re_op o_add (re_op o_sub (re_gint rfl A.i_MOST_TABLETS) (re_callB k_len rfl A.b_len b_len (ra_cons (re_ix (re_var 0) (re_int)) (ra_nil)))) (re_int)) (ra_nil))) (rg_name (i := 2) C.nd) (rss_cons (rs_set (i := 3) C.nd (re_call A.d_kept_additions.df (ok_kept_additions A) C rfl (ra_cons (re_var 0) (ra_cons (re_var 1) (ra_cons (re_var 2) (ra_nil))))))
      (rss_one (rs_if (rt_tru (re_var 3)) (rss_one (rs_ret (re_callTy k_tuple rfl A.b_tuple b_tuple (ra_cons (re_var 3) (ra_nil))))) (rss_nil)))))
      (rss_one (rs_ret (re_tup (ra_nil))))))
abbrev N_lowest : List Str := ["part", "whole", "common"]
theorem sc_lowest : FnScope N_lowest ["part", "whole"] (defScope (tS 80)) := ⟨rfl, rfl, rfl, by decide +kernel, rfl, by decide +kernel, by decide +kernel⟩
def c_lowest : List Val → M Val := cDef 3 (sSeq (sAsg (gN 2) (cAp gGcd (cCons (cVar 0) (cCons (cVar 1) (cNil))))) (sRet (cAp gTup (cCons (cOp (gD dFdiv) (cVar 0) (cVar 2)) (cCons (cOp (gD dFdiv) (cVar 1) (cVar 2)) (cNil))))))
theorem ok_lowest (A : Facts K mg base T) : FO P w K T mg base 1 "lowest" ["part", "whole"] c_lowest :=
  fo (k := 0) A.d_lowest sc_lowest fun _ _ _ _ _ C => rss_cons (rs_set (i := 2) C.nd (re_gcd rfl A.g_gcd (ra_cons (re_var 0) (ra_cons (re_var 1) (ra_nil)))))
      (rss_one (rs_ret (re_tup (ra_cons (re_op o_fdiv (re_var 0) (re_var 2)) (ra_cons (re_op o_fdiv (re_var 1) (re_var 2)) (ra_nil))))))
abbrev N_a_day_longer : List Str := ["play", "kept", "best", "rest", "longer", "state"]
theorem sc_a_day_longer : FnScope N_a_day_longer ["play", "kept"] (defScope (tS 81)) := ⟨rfl, rfl, rfl, by decide +kernel, rfl, by decide +kernel, by decide +kernel⟩
def c_a_day_longer : List Val → M Val := cDef 6 (sSeq (sAsg (gN 2) (cNewT)) (sSeq (sLock (pFld 0 "Play" "states") (sFor (cIter iKeysT (cFld "Play" "states" (cVar 0))) (gN 3) (sStore setD (cVar 2) (cVar 3) (cMaxD0 0 (cLc (cIter iData (cOp gDGet (cFld "Play" "states" (cVar 0)) (cVar 3))) [5] (gN 5) (cYes) (cOp gDGet (cVar 1) (cVar 5))))))) (sSeq (sAsg (gN 4) (cNewT)) (sSeq (sLock (pFld 0 "Play" "rests") (sFor (cIter iKeysT (cFld "Play" "rests" (cVar 0))) (gN 5) (sStore setD (cVar 4) (cVar 5) (cAp (g1 fSum) (cCons (cLc (cIter iData (cOp gDGet (cFld "Play" "rests" (cVar 0)) (cVar 5))) [3] (gN 3) (cYes) (cOp gDGet (cVar 2) (cVar 3))) (cNil)))))) (sRet (cVar 4))))))
theorem ok_a_day_longer (A : Facts K mg base T) : FO P w K T mg base 1 "a_day_longer" ["play", "kept"] c_a_day_longer :=
  fo (k := 0) A.d_a_day_longer sc_a_day_longer fun _ _ _ _ _ C => rss_cons (rs_set (i := 2) C.nd (re_newT))
      (rss_cons (rs_lock (pFld 0 "Play" "states") (rs_for C (ri_keys (re_fld A.c_Play A.n_Play_states (re_var 0))) (rg_name (i := 3) C.nd) (rss_one (rs_store (re_maxD0 C.calm C.h64 rfl A.b_max (re_lc (own := [("state", 5)]) C (ri_seq (re_dget C.h1 (re_fld A.c_Play A.n_Play_states (re_var 0)) (re_var 3))) (blkOk_by (N := N_a_day_longer) (sc := defScope (tS 81)) (by decide +kernel)) (by decide) (fun _ _ _ _ _ => rg_name (i := 5) C.nd) (fun _ _ _ _ _ => rts_nil) (fun _ _ _ _ _ => re_dget (cok_blk C).h1 (re_var 1) (re_var 5)))) (re_var 2) (re_var 3) (st_dict C.h1)))))
      (rss_cons (rs_set (i := 4) C.nd (re_newT))
      (rss_cons (rs_lock (pFld 0 "Play" "rests") (rs_for C (ri_keys (re_fld A.c_Play A.n_Play_rests (re_var 0))) (rg_name (i := 5) C.nd) (rss_one (rs_store (re_callB (k_sum C.calm) rfl A.b_sum b_sum (ra_cons (re_lc (own := [("rest", 3)]) C (ri_seq (re_dget C.h1 (re_fld A.c_Play A.n_Play_rests (re_var 0)) (re_var 5))) (blkOk_by (N := N_a_day_longer) (sc := defScope (tS 81)) (by decide +kernel)) (by decide) (fun _ _ _ _ _ => rg_name (i := 3) C.nd) (fun _ _ _ _ _ => rts_nil) (fun _ _ _ _ _ => re_dget (cok_blk C).h1 (re_var 2) (re_var 3))) (ra_nil))) (re_var 4) (re_var 5) (st_dict C.h1)))))
      (rss_one (rs_ret (re_var 4))))))
abbrev N_best_chance : List Str := ["library", "most", "days", "masks", "start", "play", "kept", "whole", "_", "state"]
theorem sc_best_chance : FnScope N_best_chance ["library", "most", "days"] (defScope (tS 82)) := ⟨rfl, rfl, rfl, by decide +kernel, rfl, by decide +kernel, by decide +kernel⟩
def c0_best_chance : List Val → M Val := cDef 10 (sSeq (sDrop (cCall 2 c_check_game (cCons (cVar 0) (cCons (cVar 1) (cNil))))) (sSeq (sDrop (cCall 3 c_check_number (cCons (cVar 2) (cCons (cK (.int 0)) (cCons (cK (.int 30)) (cNil)))))) (sSeq (sAsg (gN 3) (cCall 1 c_masks_of (cCons (cVar 0) (cNil)))) (sSeq (sIf (cNot (cTru (cCall 2 c_keep_all (cCons (cVar 3) (cCons (cOp gIx (cVar 0) (cK (.int 0))) (cNil)))))) (sRet (cAp gTup (cCons (cK (.int 0)) (cCons (cK (.int 1)) (cNil))))) (sNil)) (sSeq (sAsg (gN 4) (cCall 1 c_state_of (cCons (cVar 3) (cNil)))) (sSeq (sAsg (gN 5) (cMake "Play" 5 c_Play_d_u__init_u_ (cCons (cAp gLst (cCons (cVar 4) (cNil))) (cCons (cVar 1) (cCons (cOp gIx (cVar 0) (cK (.int 0))) (cCons (cK (.int 1)) (cNil))))))) (sSeq (sLock (pFld 5 "Play" "rests") (sAsg (gN 6) (cDc1 (.dT []) (cIter iKeysT (cFld "Play" "rests" (cVar 5))) [9] (gN 9) (cYes) (cVar 9) (cK (.int 1))))) (sSeq (sAsg (gN 7) (cK (.int 1))) (sSeq (sFor (cIterA iRange1 (cCons (cVar 2) (cNil))) (gN 8) (sSeq (sAsg (gN 6) (cCall 2 c_a_day_longer (cCons (cVar 5) (cCons (cVar 6) (cNil))))) (sAsg (gN 7) (cOp (gD dMul) (cVar 7) (cAp (g1 fLen) (cCons (cVar 3) (cNil))))))) (sRet (cCall 2 c_lowest (cCons (cOp gDGet (cVar 6) (cVar 4)) (cCons (cVar 7) (cNil))))))))))))))
def c_best_chance : List Val → M Val := cPure c0_best_chance
theorem ok_best_chance (A : Facts K mg base T) : FO P w K T mg base 8 "best_chance" ["library", "most", "days"] c_best_chance :=
  fo_pure (fo (k := 7) A.d_best_chance sc_best_chance fun _ _ _ _ _ C => rss_cons (rs_expr (re_call A.d_check_game.df (ok_check_game A) C rfl (ra_cons (re_var 0) (ra_cons (re_var 1) (ra_nil)))))
      (rss_cons (rs_expr (re_call A.d_check_number.df (ok_check_number A) C rfl (ra_cons (re_var 2) (ra_cons (re_int) (ra_cons (re_gint rfl A.i_MOST_CHANCE_DAYS) (ra_nil))))))
      (rss_cons (rs_set (i := 3) C.nd (re_call A.d_masks_of.df (ok_masks_of A) C rfl (ra_cons (re_var 0) (ra_nil))))
      (rss_cons (rs_if (rt_not (rt_tru (re_call A.d_keep_all.df (ok_keep_all A) C rfl (ra_cons (re_var 3) (ra_cons (re_ix (re_var 0) (re_int)) (ra_nil)))))) (rss_one (rs_ret (re_tup (ra_cons (re_int) (ra_cons (re_int) (ra_nil)))))) (rss_nil))
      (rss_cons (rs_set (i := 4) C.nd (re_call A.d_state_of.df (ok_state_of A) C rfl (ra_cons (re_var 3) (ra_nil))))
      (rss_cons (rs_set (i := 5) C.nd (re_make A.k_Play A.g_Play A.d_Play_d_u__init_u_.b (ok_Play_d_u__init_u_ A) C rfl (ra_cons (re_lst (ra_cons (re_var 4) (ra_nil))) (ra_cons (re_var 1) (ra_cons (re_ix (re_var 0) (re_int)) (ra_cons (re_int) (ra_nil)))))))
      (rss_cons (rs_lock (pFld 5 "Play" "rests") (rs_setDc1T (i := 6) (own := [("state", 9)]) C (ri_keys (re_fld A.c_Play A.n_Play_rests (re_var 5))) (blkOk_by (N := N_best_chance) (sc := defScope (tS 82)) (by decide +kernel)) (by decide) (fun _ _ _ _ _ => rg_name (i := 9) C.nd) (fun _ _ _ _ _ => rts_nil) (fun _ _ _ _ _ => re_var 9) (fun _ _ _ _ _ => re_int)))
      (rss_cons (rs_set (i := 7) C.nd (re_int))
      (rss_cons (rs_for C (ri_range1 rfl A.b_range (ra_cons (re_var 2) (ra_nil))) (rg_name (i := 8) C.nd) (rss_cons (rs_set (i := 6) C.nd (re_call A.d_a_day_longer.df (ok_a_day_longer A) C rfl (ra_cons (re_var 5) (ra_cons (re_var 6) (ra_nil)))))
      (rss_one (rs_set (i := 7) C.nd (re_op o_mul (re_var 7) (re_callB k_len rfl A.b_len b_len (ra_cons (re_var 3) (ra_nil))))))))
      (rss_one (rs_ret (re_call A.d_lowest.df (ok_lowest A) C rfl (ra_cons (re_dget C.h1 (re_var 6) (re_var 4)) (ra_cons (re_var 7) (ra_nil)))))))))))))))
abbrev N_idle_chance : List Str := ["library", "days", "masks", "rows", "_", "kept", "row", "number"]
theorem sc_idle_chance : FnScope N_idle_chance ["library", "days"] (defScope (tS 83)) := ⟨rfl, rfl, rfl, by decide +kernel, rfl, by decide +kernel, by decide +kernel⟩
def c0_idle_chance : List Val → M Val := cDef 8 (sSeq (sDrop (cCall 1 c_check_library (cCons (cVar 0) (cNil)))) (sSeq (sDrop (cCall 3 c_check_number (cCons (cVar 1) (cCons (cK (.int 0)) (cCons (cK (.int 30)) (cNil)))))) (sSeq (sAsg (gN 2) (cCall 1 c_masks_of (cCons (cVar 0) (cNil)))) (sSeq (sIf (cTest (cOp (gD dGe) (cVar 1) (cAp (g1 fLen) (cCons (cVar 2) (cNil))))) (sRet (cAp gTup (cCons (cK (.int 0)) (cCons (cK (.int 1)) (cNil))))) (sNil)) (sSeq (sAsg (gN 3) (cAp gLst (cCons (cVar 2) (cNil)))) (sSeq (sFor (cIterA iRange1 (cCons (cVar 1) (cNil))) (gN 4) (sAsg (gN 3) (cLc2 (cIter iData (cVar 3)) [6, 7] (gN 6) (cYes) (cIterA iRange1 (cCons (cAp (g1 fLen) (cCons (cVar 6) (cNil))) (cNil))) [7] (gN 7) (cYes) (cCall 2 c_without (cCons (cVar 6) (cCons (cVar 7) (cNil))))))) (sSeq (sAsg (gN 5) (cLc (cIter iData (cVar 3)) [6] (gN 6) (cTru (cCall 2 c_keep_all (cCons (cVar 6) (cCons (cOp gIx (cVar 0) (cK (.int 0))) (cNil))))) (cVar 6))) (sRet (cCall 2 c_lowest (cCons (cAp (g1 fLen) (cCons (cVar 5) (cNil))) (cCons (cAp (g1 fLen) (cCons (cVar 3) (cNil))) (cNil))))))))))))
def c_idle_chance : List Val → M Val := cPure c0_idle_chance
theorem ok_idle_chance (A : Facts K mg base T) : FO P w K T mg base 7 "idle_chance" ["library", "days"] c_idle_chance :=
  fo_pure (fo (k := 6) A.d_idle_chance sc_idle_chance fun _ _ _ _ _ C => rss_cons (rs_expr (re_call A.d_check_library.df (ok_check_library A) C rfl (ra_cons (re_var 0) (ra_nil))))
      (rss_cons (rs_expr (re_call A.d_check_number.df (ok_check_number A) C rfl (ra_cons (re_var 1) (ra_cons (re_int) (ra_cons (re_gint rfl A.i_MOST_CHANCE_DAYS) (ra_nil))))))
      (rss_cons (rs_set (i := 2) C.nd (re_call A.d_masks_of.df (ok_masks_of A) C rfl (ra_cons (re_var 0) (ra_nil))))
      (rss_cons (rs_if (rt_cmp o_ge (re_var 1) (re_callB k_len rfl A.b_len b_len (ra_cons (re_var 2) (ra_nil)))) (rss_one (rs_ret (re_tup (ra_cons (re_int) (ra_cons (re_int) (ra_nil)))))) (rss_nil))
      (rss_cons (rs_set (i := 3) C.nd (re_lst (ra_cons (re_var 2) (ra_nil))))
      (rss_cons (rs_for C (ri_range1 rfl A.b_range (ra_cons (re_var 1) (ra_nil))) (rg_name (i := 4) C.nd) (rss_one (rs_setLc2 (i := 3) (own := [("row", 6), ("number", 7)]) C (vs1 := [7]) (ri_seq (re_var 3)) (blkOk_by (N := N_idle_chance) (sc := defScope (tS 83)) (by decide +kernel)) (by decide) (by decide) (by decide) (fun _ _ _ _ _ => rg_name (i := 6) C.nd) (fun _ _ _ _ _ => rts_nil) (fun _ _ _ _ _ => ri_range1 rfl A.b_range (ra_cons (re_callB k_len rfl A.b_len b_len (ra_cons (re_var 6) (ra_nil))) (ra_nil))) (fun _ _ _ _ _ => rg_name (i := 7) C.nd) (fun _ _ _ _ _ => rts_nil) (fun _ _ _ _ _ => re_call A.d_without.df (ok_without A) (cok_blk C) rfl (ra_cons (re_var 6) (ra_cons (re_var 7) (ra_nil)))))))
      (rss_cons (rs_setLc (i := 5) (own := [("row", 6)]) C (ri_seq (re_var 3)) (blkOk_by (N := N_idle_chance) (sc := defScope (tS 83)) (by decide +kernel)) (by decide) (fun _ _ _ _ _ => rg_name (i := 6) C.nd) (fun _ _ _ _ _ => rts_one (rt_tru (re_call A.d_keep_all.df (ok_keep_all A) (cok_blk C) rfl (ra_cons (re_var 6) (ra_cons (re_ix (re_var 0) (re_int)) (ra_nil)))))) (fun _ _ _ _ _ => re_var 6))
      (rss_one (rs_ret (re_call A.d_lowest.df (ok_lowest A) C rfl (ra_cons (re_callB k_len rfl A.b_len b_len (ra_cons (re_var 5) (ra_nil))) (ra_cons (re_callB k_len rfl A.b_len b_len (ra_cons (re_var 3) (ra_nil))) (ra_nil)))))))))))))
abbrev N__law_taken : List Str := ["row", "many", "found", "cell"]
theorem sc__law_taken : FnScope N__law_taken ["row", "many"] (defScope (tS 85)) := ⟨rfl, rfl, rfl, by decide +kernel, rfl, by decide +kernel, by decide +kernel⟩
def c__law_taken : List Val → M Val := cDef 4 (sSeq (sIf (cTest (cOp (gD dGt) (cOp gIx (cVar 0) (cK (.int 3))) (cK (.int 0)))) (sSeq (sAsg (gN 2) (cOp (gD dMod) (cAp (g1 fInt) (cCons (cOp gIx (cVar 0) (cK (.int 3))) (cNil))) (cVar 1))) (sSeq (sStore setC (cVar 0) (cK (.int 3)) (cOp (gD dFdiv) (cOp gIx (cVar 0) (cK (.int 3))) (cVar 1))) (sRet (cVar 2)))) (sNil)) (sSeq (sStore setC (cVar 0) (cK (.int 1)) (cOp (gDM dAdd) (cOp gIx (cVar 0) (cK (.int 1))) (cK (.int 1)))) (sSeq (sIf (cTest (cOp (gD dGt) (cOp gIx (cVar 0) (cK (.int 1))) (cAp (g1 fLen) (cCons (cOp gIx (cVar 0) (cK (.int 0))) (cNil))))) (sSeq (sStore setC (cVar 0) (cK (.int 2)) (cOp (gD dMod) (cAp (g1 fInt) (cCons (cOp (gDM dAdd) (cOp (gD dMul) (cOp gIx (cVar 0) (cK (.int 2))) (cK (.int 48271))) (cK (.int 11))) (cNil))) (cK (.int 2147483647)))) (sRet (cOp (gD dMod) (cAp (g1 fInt) (cCons (cOp (gD dFdiv) (cOp gIx (cVar 0) (cK (.int 2))) (cK (.int 7))) (cNil))) (cVar 1)))) (sNil)) (sSeq (sAsg (gN 3) (cOp gIx (cOp gIx (cVar 0) (cK (.int 0))) (cOp (gD dSub) (cOp gIx (cVar 0) (cK (.int 1))) (cK (.int 1))))) (sSeq (sStore setC (cVar 0) (cK (.int 2)) (cOp (gD dMod) (cAp (g1 fInt) (cCons (cOp (gDM dAdd) (cOp (gDM dAdd) (cOp (gD dMul) (cOp gIx (cVar 0) (cK (.int 2))) (cK (.int 48271))) (cVar 3)) (cK (.int 11))) (cNil))) (cK (.int 2147483647)))) (sSeq (sIf (cTest (cOp (gD dGe) (cVar 3) (cOp (gD dPow) (cK (.int 10)) (cK (.int 18))))) (sStore setC (cVar 0) (cK (.int 3)) (cOp (gD dFdiv) (cVar 3) (cVar 1))) (sNil)) (sRet (cOp (gD dMod) (cAp (g1 fInt) (cCons (cVar 3) (cNil))) (cVar 1)))))))))
theorem ok__law_taken (A : Facts K mg base T) : FO P w K T mg base 1 "_law_taken" ["row", "many"] c__law_taken :=
  fo (k := 0) A.d__law_taken sc__law_taken fun _ _ _ _ _ C => rss_cons (rs_if (rt_cmp o_gt (re_ix (re_var 0) (re_int)) (re_int)) (rss_cons (rs_set (i := 2) C.nd (re_op o_mod (re_callTy k_int rfl A.b_int b_int (ra_cons (re_ix (re_var 0) (re_int)) (ra_nil))) (re_var 1)))
      (rss_cons (rs_store (re_op o_fdiv (re_ix (re_var 0) (re_int)) (re_var 1)) (re_var 0) (re_int) st_list)
      (rss_one (rs_ret (re_var 2))))) (rss_nil))
      (rss_cons (rs_store (re_op o_add (re_ix (re_var 0) (re_int)) (re_int)) (re_var 0) (re_int) st_list)
      (rss_cons (rs_if (rt_cmp o_gt (re_ix (re_var 0) (re_int)) (re_callB k_len rfl A.b_len b_len (ra_cons (re_ix (re_var 0) (re_int)) (ra_nil)))) (rss_cons (rs_store (re_op o_mod (re_callTy k_int rfl A.b_int b_int (ra_cons (re_op o_add (re_op o_mul (re_ix (re_var 0) (re_int)) (re_int)) (re_int)) (ra_nil))) (re_int)) (re_var 0) (re_int) st_list)
      (rss_one (rs_ret (re_op o_mod (re_callTy k_int rfl A.b_int b_int (ra_cons (re_op o_fdiv (re_ix (re_var 0) (re_int)) (re_int)) (ra_nil))) (re_var 1))))) (rss_nil))
      (rss_cons (rs_set (i := 3) C.nd (re_ix (re_ix (re_var 0) (re_int)) (re_op o_sub (re_ix (re_var 0) (re_int)) (re_int))))
      (rss_cons (rs_store (re_op o_mod (re_callTy k_int rfl A.b_int b_int (ra_cons (re_op o_add (re_op o_add (re_op o_mul (re_ix (re_var 0) (re_int)) (re_int)) (re_var 3)) (re_int)) (ra_nil))) (re_int)) (re_var 0) (re_int) st_list)
      (rss_cons (rs_if (rt_cmp o_ge (re_var 3) (re_op o_pow (re_int) (re_int))) (rss_one (rs_store (re_op o_fdiv (re_var 3) (re_var 1)) (re_var 0) (re_int) st_list)) (rss_nil))
      (rss_one (rs_ret (re_op o_mod (re_callTy k_int rfl A.b_int b_int (ra_cons (re_var 3) (ra_nil))) (re_var 1)))))))))
abbrev N_law : List Str := ["script", "row", "ring", "bare", "twice", "days", "other", "most"]
theorem sc_law : FnScope N_law ["script"] (defScope (tS 86)) := ⟨rfl, rfl, rfl, by decide +kernel, rfl, by decide +kernel, by decide +kernel⟩
def c_law : List Val → M Val := cDef 8 (sSeq (sAsg (gN 1) (cAp gNewL (cCons (cVar 0) (cCons (cK (.int 0)) (cCons (cK (.int 808)) (cCons (cK (.int 0)) (cNil))))))) (sSeq (sTup [gN 2, gN 3] (cCons (cAp gTup (cCons (cK (.int 2)) (cCons (cAp gTup (cCons (cAp gTup (cCons (cK (.int 0)) (cNil))) (cCons (cAp gTup (cCons (cK (.int 1)) (cNil))) (cCons (cAp gTup (cCons (cK (.int 0)) (cCons (cK (.int 1)) (cNil)))) (cNil))))) (cNil)))) (cCons (cAp gTup (cCons (cK (.int 2)) (cCons (cAp gTup (cCons (cAp gTup (cCons (cK (.int 0)) (cNil))) (cCons (cAp gTup (cCons (cK (.int 1)) (cNil))) (cCons (cAp gTup (cNil)) (cNil))))) (cNil)))) (cNil)))) (sSeq (sIf (cOr (cNot (cTru (cCall 2 c_is_scheme (cCons (cVar 2) (cCons (cK (.int 2)) (cNil)))))) (cOr (cTru (cCall 2 c_is_scheme (cCons (cVar 2) (cCons (cK (.int 1)) (cNil))))) (cOr (cTest (cOp (gD dNe) (cCall 2 c_rings (cCons (cVar 2) (cCons (cK (.int 2)) (cNil)))) (cAp gTup (cCons (cAp gTup (cCons (cK (.int 0)) (cCons (cK (.int 1)) (cCons (cK (.int 2)) (cNil))))) (cNil))))) (cTest (cOp (gD dNe) (cCall 2 c_tame (cCons (cVar 2) (cCons (cK (.int 1)) (cNil)))) (cAp gTup (cNil))))))) (sRet (cK (.bool false))) (sNil)) (sSeq (sIf (cOr (cTest (cIsN false (cCall 2 c_lost_within (cCons (cVar 2) (cCons (cK (.int 2)) (cNil)))))) (cOr (cTest (cOp (gD dNe) (cCall 2 c_lost_within (cCons (cVar 2) (cCons (cK (.int 1)) (cNil)))) (cK (.int 2)))) (cTest (cOp (gD dNe) (cCall 2 c_lost_within (cCons (cVar 3) (cCons (cK (.int 3)) (cNil)))) (cK (.int 1)))))) (sRet (cK (.bool false))) (sNil)) (sSeq (sIf (cOr (cTest (cOp (gD dNe) (cCall 2 c_downfall (cCons (cVar 3) (cCons (cK (.int 3)) (cNil)))) (cAp gTup (cCons (cAp gTup (cCons (cK (.int 0)) (cCons (cAp gTup (cNil)) (cNil)))) (cNil))))) (cOr (cTest (cOp (gD dNe) (cCall 3 c_good_writings (cCons (cVar 2) (cCons (cK (.int 2)) (cCons (cK (.int 0)) (cNil))))) (cAp gTup (cCons (cAp gTup (cCons (cK (.int 1)) (cCons (cK (.int 2)) (cNil)))) (cNil))))) (cTest (cOp (gD dNotB) (cCall 1 c_keeps (cCons (cVar 3) (cNil))) (cK (.bool true)))))) (sRet (cK (.bool false))) (sNil)) (sSeq (sIf (cOr (cTest (cOp (gD dNe) (cCall 2 c_rank_kept (cCons (cVar 3) (cCons (cK (.int 2)) (cNil)))) (cK (.int 1)))) (cTest (cOp (gD dNe) (cCall 2 c_additions (cCons (cVar 3) (cCons (cK (.int 2)) (cNil)))) (cAp gTup (cCons (cAp gTup (cCons (cAp gTup (cCons (cK (.int 0)) (cCons (cK (.int 1)) (cNil)))) (cNil))) (cNil)))))) (sRet (cK (.bool false))) (sNil)) (sSeq (sAsg (gN 4) (cAp gTup (cCons (cK (.int 1)) (cCons (cAp gTup (cCons (cAp gTup (cCons (cK (.int 0)) (cNil))) (cCons (cAp gTup (cCons (cK (.int 0)) (cNil))) (cNil)))) (cNil))))) (sSeq (sIf (cOr (cTest (cOp (gD dNotB) (cCall 2 c_kept_for_ever (cCons (cVar 4) (cCons (cK (.int 1)) (cNil)))) (cK (.bool true)))) (cOr (cTest (cOp (gD dNe) (cCall 3 c_schemes (cCons (cK (.int 1)) (cCons (cK (.int 2)) (cCons (cK (.int 1)) (cNil))))) (cAp gTup (cCons (cVar 4) (cNil))))) (cTest (cOp (gD dNe) (cCall 3 c_count_schemes (cCons (cK (.int 2)) (cCons (cK (.int 3)) (cCons (cK (.int 1)) (cNil))))) (cK (.int 0)))))) (sRet (cK (.bool false))) (sNil)) (sSeq (sIf (cOr (cTest (cOp (gD dNe) (cLc (cIter iData (cAp gLst (cCons (cK (.int 1)) (cCons (cK (.int 2)) (cCons (cK (.int 3)) (cNil)))))) [7] (gN 7) (cYes) (cCall 2 c_fewest_tablets (cCons (cK (.int 3)) (cCons (cVar 7) (cNil))))) (cAp gLst (cCons (cK (.int 6)) (cCons (cK (.int 5)) (cCons (cK (.int 4)) (cNil))))))) (cOr (cTru (cCall 3 c_can_be (cCons (cK (.int 3)) (cCons (cK (.int 4)) (cCons (cK (.int 2)) (cNil)))))) (cTest (cOp (gD dNotB) (cCall 3 c_can_be (cCons (cK (.int 3)) (cCons (cK (.int 4)) (cCons (cK (.int 3)) (cNil))))) (cK (.bool true)))))) (sRet (cK (.bool false))) (sNil)) (sSeq (sIf (cOr (cTest (cOp (gD dNe) (cCall 1 c_spanned (cCons (cVar 3) (cNil))) (cAp gTup (cCons (cAp gTup (cNil)) (cCons (cAp gTup (cCons (cK (.int 0)) (cNil))) (cCons (cAp gTup (cCons (cK (.int 0)) (cCons (cK (.int 1)) (cNil)))) (cCons (cAp gTup (cCons (cK (.int 1)) (cNil))) (cNil)))))))) (cOr (cTest (cOp (gD dNe) (cCall 1 c_rank (cCons (cVar 3) (cNil))) (cK (.int 2)))) (cTest (cOp (gD dNe) (cCall 3 c_best_chance (cCons (cVar 2) (cCons (cK (.int 2)) (cCons (cK (.int 9)) (cNil))))) (cAp gTup (cCons (cK (.int 1)) (cCons (cK (.int 1)) (cNil)))))))) (sRet (cK (.bool false))) (sNil)) (sSeq (sIf (cOr (cTest (cOp (gD dNe) (cCall 2 c_idle_chance (cCons (cVar 2) (cCons (cK (.int 1)) (cNil)))) (cAp gTup (cCons (cK (.int 1)) (cCons (cK (.int 1)) (cNil)))))) (cOr (cTest (cOp (gD dNe) (cCall 2 c_idle_chance (cCons (cVar 2) (cCons (cK (.int 2)) (cNil)))) (cAp gTup (cCons (cK (.int 0)) (cCons (cK (.int 1)) (cNil)))))) (cTest (cOp (gD dNe) (cCall 2 c_idle_chance (cCons (cVar 3) (cCons (cK (.int 1)) (cNil)))) (cAp gTup (cCons (cK (.int 1)) (cCons (cK (.int 3)) (cNil)))))))) (sRet (cK (.bool false))) (sNil)) (sSeq (sAsg (gN 5) (cAp gTup (cCons (cAp gTup (cCons (cK (.int 0)) (cCons (cAp gTup (cCons (cK (.int 1)) (cCons (cK (.int 2)) (cNil)))) (cNil)))) (cCons (cAp gTup (cCons (cK (.int 1)) (cCons (cAp gTup (cNil)) (cNil)))) (cNil))))) (sSeq (sIf (cOr (cTest (cOp (gD dNe) (cCall 3 c_after (cCons (cVar 2) (cCons (cK (.int 2)) (cCons (cVar 5) (cNil))))) (cAp gTup (cCons (cK (.int 2)) (cCons (cAp gTup (cCons (cAp gTup (cCons (cK (.int 0)) (cNil))) (cCons (cAp gTup (cNil)) (cCons (cAp gTup (cCons (cK (.int 0)) (cCons (cK (.int 1)) (cNil)))) (cNil))))) (cNil)))))) (cTest (cIsN false (cCall 3 c_lost_on (cCons (cVar 2) (cCons (cK (.int 2)) (cCons (cVar 5) (cNil)))))))) (sRet (cK (.bool false))) (sNil)) (sSeq (sAsg (gN 6) (cAp gTup (cCons (cK (.int 2)) (cCons (cOp (gD dRepT) (cAp gTup (cCons (cOp gIx (cOp gIx (cVar 2) (cK (.int 1))) (cCall 2 c__law_taken (cCons (cVar 1) (cCons (cK (.int 3)) (cNil))))) (cNil))) (cK (.int 3))) (cNil))))) (sSeq (sIf (cOr (cTru (cCall 1 c_keeps (cCons (cVar 6) (cNil)))) (cOr (cTest (cOp (gD dNe) (cCall 2 c_lost_within (cCons (cVar 6) (cCons (cK (.int 3)) (cNil)))) (cK (.int 0)))) (cTest (cOp (gD dNe) (cCall 2 c_downfall (cCons (cVar 6) (cCons (cK (.int 1)) (cNil)))) (cAp gTup (cNil)))))) (sRet (cK (.bool false))) (sNil)) (sRet (cAndV (cOp (gD dEq) (cCall 3 c_lost_on (cCons (cVar 2) (cCons (cK (.int 2)) (cCons (cOp (gDM dAdd) (cVar 5) (cAp gTup (cCons (cAp gTup (cCons (cK (.int 0)) (cCons (cAp gTup (cNil)) (cNil)))) (cNil)))) (cNil))))) (cK (.int 2))) (cOp (gD dEq) (cCall 3 c_count_schemes (cCons (cK (.int 2)) (cCons (cK (.int 3)) (cCons (cK (.int 2)) (cNil))))) (cK (.int 1))))))))))))))))))))
theorem ok_law (A : Facts K mg base T) : FO P w K T mg base 10 "law" ["script"] c_law :=
  fo (k := 9) A.d_law sc_law fun _ _ _ _ _ C => rss_cons (rs_set (i := 1) C.nd (re_newL (ra_cons (re_var 0) (ra_cons (re_int) (ra_cons (re_int) (ra_cons (re_int) (ra_nil)))))))
      (rss_cons (rs_tup C.calm (ra_cons (re_tup (ra_cons (re_int) (ra_cons (re_tup (ra_cons (re_tup (ra_cons (re_int) (ra_nil))) (ra_cons (re_tup (ra_cons (re_int) (ra_nil))) (ra_cons (re_tup (ra_cons (re_int) (ra_cons (re_int) (ra_nil)))) (ra_nil))))) (ra_nil)))) (ra_cons (re_tup (ra_cons (re_int) (ra_cons (re_tup (ra_cons (re_tup (ra_cons (re_int) (ra_nil))) (ra_cons (re_tup (ra_cons (re_int) (ra_nil))) (ra_cons (re_tup (ra_nil)) (ra_nil))))) (ra_nil)))) (ra_nil))) (rgs_cons (rg_name (i := 2) C.nd) (rgs_cons (rg_name (i := 3) C.nd) (rgs_nil))))
      (rss_cons (rs_if (RW.rt (rw_or (rt_not (rt_tru (re_call A.d_is_scheme.df (ok_is_scheme A) C rfl (ra_cons (re_var 2) (ra_cons (re_int) (ra_nil)))))) (rw_or (rt_tru (re_call A.d_is_scheme.df (ok_is_scheme A) C rfl (ra_cons (re_var 2) (ra_cons (re_int) (ra_nil))))) (rw_or (rt_cmp (o_ne C.h64) (re_call A.d_rings.df (ok_rings A) C rfl (ra_cons (re_var 2) (ra_cons (re_int) (ra_nil)))) (re_tup (ra_cons (re_tup (ra_cons (re_int) (ra_cons (re_int) (ra_cons (re_int) (ra_nil))))) (ra_nil)))) (rw_or1 (rt_cmp (o_ne C.h64) (re_call A.d_tame.df (ok_tame A) C rfl (ra_cons (re_var 2) (ra_cons (re_int) (ra_nil)))) (re_tup (ra_nil)))))))) (rss_one (rs_ret (re_bl))) (rss_nil))
      (rss_cons (rs_if (RW.rt (rw_or (rt_notN (re_call A.d_lost_within.df (ok_lost_within A) C rfl (ra_cons (re_var 2) (ra_cons (re_int) (ra_nil))))) (rw_or (rt_cmp (o_ne C.h64) (re_call A.d_lost_within.df (ok_lost_within A) C rfl (ra_cons (re_var 2) (ra_cons (re_int) (ra_nil)))) (re_int)) (rw_or1 (rt_cmp (o_ne C.h64) (re_call A.d_lost_within.df (ok_lost_within A) C rfl (ra_cons (re_var 3) (ra_cons (re_int) (ra_nil)))) (re_int)))))) (rss_one (rs_ret (re_bl))) (rss_nil))
      (rss_cons (rs_if (RW.rt (rw_or (rt_cmp (o_ne C.h64) (re_call A.d_downfall.df (ok_downfall A) C rfl (ra_cons (re_var 3) (ra_cons (re_int) (ra_nil)))) (re_tup (ra_cons (re_tup (ra_cons (re_int) (ra_cons (re_tup (ra_nil)) (ra_nil)))) (ra_nil)))) (rw_or (rt_cmp (o_ne C.h64) (re_call A.d_good_writings.df (ok_good_writings A) C rfl (ra_cons (re_var 2) (ra_cons (re_int) (ra_cons (re_int) (ra_nil))))) (re_tup (ra_cons (re_tup (ra_cons (re_int) (ra_cons (re_int) (ra_nil)))) (ra_nil)))) (rw_or1 (rt_cmp o_notB (re_call A.d_keeps.df (ok_keeps A) C rfl (ra_cons (re_var 3) (ra_nil))) (re_bl)))))) (rss_one (rs_ret (re_bl))) (rss_nil))
      (rss_cons (rs_if (RW.rt (rw_or (rt_cmp (o_ne C.h64) (re_call A.d_rank_kept.df (ok_rank_kept A) C rfl (ra_cons (re_var 3) (ra_cons (re_int) (ra_nil)))) (re_int)) (rw_or1 (rt_cmp (o_ne C.h64) (re_call A.d_additions.df (ok_additions A) C rfl (ra_cons (re_var 3) (ra_cons (re_int) (ra_nil)))) (re_tup (ra_cons (re_tup (ra_cons (re_tup (ra_cons (re_int) (ra_cons (re_int) (ra_nil)))) (ra_nil))) (ra_nil))))))) (rss_one (rs_ret (re_bl))) (rss_nil))
      (rss_cons (rs_set (i := 4) C.nd (re_tup (ra_cons (re_int) (ra_cons (re_tup (ra_cons (re_tup (ra_cons (re_int) (ra_nil))) (ra_cons (re_tup (ra_cons (re_int) (ra_nil))) (ra_nil)))) (ra_nil)))))
      (rss_cons (rs_if (RW.rt (rw_or (rt_cmp o_notB (re_call A.d_kept_for_ever.df (ok_kept_for_ever A) C rfl (ra_cons (re_var 4) (ra_cons (re_int) (ra_nil)))) (re_bl)) (rw_or (rt_cmp (o_ne C.h64) (re_call A.d_schemes.df (ok_schemes A) C rfl (ra_cons (re_int) (ra_cons (re_int) (ra_cons (re_int) (ra_nil))))) (re_tup (ra_cons (re_var 4) (ra_nil)))) (rw_or1 (rt_cmp (o_ne C.h64) (re_call A.d_count_schemes.df (ok_count_schemes A) C rfl (ra_cons (re_int) (ra_cons (re_int) (ra_cons (re_int) (ra_nil))))) (re_int)))))) (rss_one (rs_ret (re_bl))) (rss_nil))
      (rss_cons (rs_if (RW.rt (rw_or (rt_cmp (o_ne C.h64) (re_lc (own := [("most", 7)]) C (ri_seq (re_lst (ra_cons (re_int) (ra_cons (re_int) (ra_cons (re_int) (ra_nil)))))) (blkOk_by (N := N_law) (sc := defScope (tS 86)) (by decide +kernel)) (by decide) (fun _ _ _ _ _ => rg_name (i := 7) C.nd) (fun _ _ _ _ _ => rts_nil) (fun _ _ _ _ _ => re_call A.d_fewest_tablets.df (ok_fewest_tablets A) (cok_blk C) rfl (ra_cons (re_int) (ra_cons (re_var 7) (ra_nil))))) (re_lst (ra_cons (re_int) (ra_cons (re_int) (ra_cons (re_int) (ra_nil)))))) (rw_or (rt_tru (re_call A.d_can_be.df (ok_can_be A) C rfl (ra_cons (re_int) (ra_cons (re_int) (ra_cons (re_int) (ra_nil)))))) (rw_or1 (rt_cmp o_notB (re_call A.d_can_be.df (ok_can_be A) C rfl (ra_cons (re_int) (ra_cons (re_int) (ra_cons (re_int) (ra_nil))))) (re_bl)))))) (rss_one (rs_ret (re_bl))) (rss_nil))
      (rss_cons (rs_if (RW.rt (rw_or (rt_cmp (o_ne C.h64) (re_call A.d_spanned.df (ok_spanned A) C rfl (ra_cons (re_var 3) (ra_nil))) (re_tup (ra_cons (re_tup (ra_nil)) (ra_cons (re_tup (ra_cons (re_int) (ra_nil))) (ra_cons (re_tup (ra_cons (re_int) (ra_cons (re_int) (ra_nil)))) (ra_cons (re_tup (ra_cons (re_int) (ra_nil))) (ra_nil))))))) (rw_or (rt_cmp (o_ne C.h64) (re_call A.d_rank.df (ok_rank A) C rfl (ra_cons (re_var 3) (ra_nil))) (re_int)) (rw_or1 (rt_cmp (o_ne C.h64) (re_call A.d_best_chance.df (ok_best_chance A) C rfl (ra_cons (re_var 2) (ra_cons (re_int) (ra_cons (re_int) (ra_nil))))) (re_tup (ra_cons (re_int) (ra_cons (re_int) (ra_nil))))))))) (rss_one (rs_ret (re_bl))) (rss_nil))
      (rss_cons (rs_if (RW.rt (rw_or (rt_cmp (o_ne C.h64) (re_call A.d_idle_chance.df (ok_idle_chance A) C rfl (ra_cons (re_var 2) (ra_cons (re_int) (ra_nil)))) (re_tup (ra_cons (re_int) (ra_cons (re_int) (ra_nil))))) (rw_or (rt_cmp (o_ne C.h64) (re_call A.d_idle_chance.df (ok_idle_chance A) C rfl (ra_cons (re_var 2) (ra_cons (re_int) (ra_nil)))) (re_tup (ra_cons (re_int) (ra_cons (re_int) (ra_nil))))) (rw_or1 (rt_cmp (o_ne C.h64) (re_call A.d_idle_chance.df (ok_idle_chance A) C rfl (ra_cons (re_var 3) (ra_cons (re_int) (ra_nil)))) (re_tup (ra_cons (re_int) (ra_cons (re_int) (ra_nil))))))))) (rss_one (rs_ret (re_bl))) (rss_nil))
      (rss_cons (rs_set (i := 5) C.nd (re_tup (ra_cons (re_tup (ra_cons (re_int) (ra_cons (re_tup (ra_cons (re_int) (ra_cons (re_int) (ra_nil)))) (ra_nil)))) (ra_cons (re_tup (ra_cons (re_int) (ra_cons (re_tup (ra_nil)) (ra_nil)))) (ra_nil)))))
      (rss_cons (rs_if (RW.rt (rw_or (rt_cmp (o_ne C.h64) (re_call A.d_after.df (ok_after A) C rfl (ra_cons (re_var 2) (ra_cons (re_int) (ra_cons (re_var 5) (ra_nil))))) (re_tup (ra_cons (re_int) (ra_cons (re_tup (ra_cons (re_tup (ra_cons (re_int) (ra_nil))) (ra_cons (re_tup (ra_nil)) (ra_cons (re_tup (ra_cons (re_int) (ra_cons (re_int) (ra_nil)))) (ra_nil))))) (ra_nil))))) (rw_or1 (rt_notN (re_call A.d_lost_on.df (ok_lost_on A) C rfl (ra_cons (re_var 2) (ra_cons (re_int) (ra_cons (re_var 5) (ra_nil))))))))) (rss_one (rs_ret (re_bl))) (rss_nil))
      (rss_cons (rs_set (i := 6) C.nd (re_tup (ra_cons (re_int) (ra_cons (re_op o_repT (re_tup (ra_cons (re_ix (re_ix (re_var 2) (re_int)) (re_call A.d__law_taken.df (ok__law_taken A) C rfl (ra_cons (re_var 1) (ra_cons (re_int) (ra_nil))))) (ra_nil))) (re_int)) (ra_nil)))))
      (rss_cons (rs_if (RW.rt (rw_or (rt_tru (re_call A.d_keeps.df (ok_keeps A) C rfl (ra_cons (re_var 6) (ra_nil)))) (rw_or (rt_cmp (o_ne C.h64) (re_call A.d_lost_within.df (ok_lost_within A) C rfl (ra_cons (re_var 6) (ra_cons (re_int) (ra_nil)))) (re_int)) (rw_or1 (rt_cmp (o_ne C.h64) (re_call A.d_downfall.df (ok_downfall A) C rfl (ra_cons (re_var 6) (ra_cons (re_int) (ra_nil)))) (re_tup (ra_nil))))))) (rss_one (rs_ret (re_bl))) (rss_nil))
      (rss_one (rs_ret (re_and (re_cmp (o_eq C.h64) (re_call A.d_lost_on.df (ok_lost_on A) C rfl (ra_cons (re_var 2) (ra_cons (re_int) (ra_cons (re_op o_add (re_var 5) (re_tup (ra_cons (re_tup (ra_cons (re_int) (ra_cons (re_tup (ra_nil)) (ra_nil)))) (ra_nil)))) (ra_nil))))) (re_int)) (re_one (re_cmp (o_eq C.h64) (re_call A.d_count_schemes.df (ok_count_schemes A) C rfl (ra_cons (re_int) (ra_cons (re_int) (ra_cons (re_int) (ra_nil))))) (re_int))))))))))))))))))))
end
end MK
namespace MK.E
open PySem PySem.Spec PyProof.Rows L2 MV
/-! ### the head -/
open MK.H
theorem facts {base : Heap} {K : PySem.W.Frag} {h : Heap} {mg : Str → Option Value} {T : Tx} (X : K.In h) (G : h.Ns mainGlobals mg) (c : He.SaysD fa fn K) (mo : He.eqO (PySem.W.nsIn K mainGlobals "gcd") (some (some (.builtin "math.gcd"))) = true) (tb : ∀ p ∈ tf, GxR.TabB base mg (He.cT K p).1 (He.cT K p).2 ∧ (He.cT K p).2 ∈ T.tabs) : Facts K mg base T := by
  have d0 : Dn K mg "is_within" (tS 14) ["value", "low", "high"] := by
    obtain ⟨fd, F⟩ := c.defs (d := dd "is_within" (tS 14)) (by simp [fn, fn0, fn1, fn2])
    exact dn_of F (He.glo_ok X G (c.facts (f := .glo "is_within") (by simp [fa, fa0, fa1, fa2, fa3]))) fun _ _ _ _ _ _ us hl => match us, hl with | [_, _, _], _ => rfl
  have d1 : Dn K mg "is_pair" (tS 15) ["value"] := by
    obtain ⟨fd, F⟩ := c.defs (d := dd "is_pair" (tS 15)) (by simp [fn, fn0, fn1, fn2])
    exact dn_of F (He.glo_ok X G (c.facts (f := .glo "is_pair") (by simp [fa, fa0, fa1, fa2, fa3]))) fun _ _ _ _ _ _ us hl => match us, hl with | [_], _ => rfl
  have d2 : Dn K mg "is_ascending" (tS 16) ["value", "many"] := by
    obtain ⟨fd, F⟩ := c.defs (d := dd "is_ascending" (tS 16)) (by simp [fn, fn0, fn1, fn2])
    exact dn_of F (He.glo_ok X G (c.facts (f := .glo "is_ascending") (by simp [fa, fa0, fa1, fa2, fa3]))) fun _ _ _ _ _ _ us hl => match us, hl with | [_, _], _ => rfl
  have d3 : Dn K mg "are_tablets" (tS 17) ["value", "texts"] := by
    obtain ⟨fd, F⟩ := c.defs (d := dd "are_tablets" (tS 17)) (by simp [fn, fn0, fn1, fn2])
    exact dn_of F (He.glo_ok X G (c.facts (f := .glo "are_tablets") (by simp [fa, fa0, fa1, fa2, fa3]))) fun _ _ _ _ _ _ us hl => match us, hl with | [_, _], _ => rfl
  have d4 : Dn K mg "wrong_part" (tS 18) ["value"] := by
    obtain ⟨fd, F⟩ := c.defs (d := dd "wrong_part" (tS 18)) (by simp [fn, fn0, fn1, fn2])
    exact dn_of F (He.glo_ok X G (c.facts (f := .glo "wrong_part") (by simp [fa, fa0, fa1, fa2, fa3]))) fun _ _ _ _ _ _ us hl => match us, hl with | [_], _ => rfl
  have d5 : Dn K mg "check_library" (tS 19) ["library"] := by
    obtain ⟨fd, F⟩ := c.defs (d := dd "check_library" (tS 19)) (by simp [fn, fn0, fn1, fn2])
    exact dn_of F (He.glo_ok X G (c.facts (f := .glo "check_library") (by simp [fa, fa0, fa1, fa2, fa3]))) fun _ _ _ _ _ _ us hl => match us, hl with | [_], _ => rfl
  have d6 : Dn K mg "check_most" (tS 20) ["most"] := by
    obtain ⟨fd, F⟩ := c.defs (d := dd "check_most" (tS 20)) (by simp [fn, fn0, fn1, fn2])
    exact dn_of F (He.glo_ok X G (c.facts (f := .glo "check_most") (by simp [fa, fa0, fa1, fa2, fa3]))) fun _ _ _ _ _ _ us hl => match us, hl with | [_], _ => rfl
  have d7 : Dn K mg "check_game" (tS 21) ["library", "most"] := by
    obtain ⟨fd, F⟩ := c.defs (d := dd "check_game" (tS 21)) (by simp [fn, fn0, fn1, fn2])
    exact dn_of F (He.glo_ok X G (c.facts (f := .glo "check_game") (by simp [fa, fa0, fa1, fa2, fa3]))) fun _ _ _ _ _ _ us hl => match us, hl with | [_, _], _ => rfl
  have d8 : Dn K mg "check_number" (tS 22) ["number", "low", "high"] := by
    obtain ⟨fd, F⟩ := c.defs (d := dd "check_number" (tS 22)) (by simp [fn, fn0, fn1, fn2])
    exact dn_of F (He.glo_ok X G (c.facts (f := .glo "check_number") (by simp [fa, fa0, fa1, fa2, fa3]))) fun _ _ _ _ _ _ us hl => match us, hl with | [_, _, _], _ => rfl
  have d9 : Dn K mg "check_counts" (tS 23) ["texts", "tablets"] := by
    obtain ⟨fd, F⟩ := c.defs (d := dd "check_counts" (tS 23)) (by simp [fn, fn0, fn1, fn2])
    exact dn_of F (He.glo_ok X G (c.facts (f := .glo "check_counts") (by simp [fa, fa0, fa1, fa2, fa3]))) fun _ _ _ _ _ _ us hl => match us, hl with | [_, _], _ => rfl
  have d10 : Dn K mg "check_tablet" (tS 24) ["number", "many"] := by
    obtain ⟨fd, F⟩ := c.defs (d := dd "check_tablet" (tS 24)) (by simp [fn, fn0, fn1, fn2])
    exact dn_of F (He.glo_ok X G (c.facts (f := .glo "check_tablet") (by simp [fa, fa0, fa1, fa2, fa3]))) fun _ _ _ _ _ _ us hl => match us, hl with | [_, _], _ => rfl
  have d11 : Dn K mg "is_writing" (tS 25) ["value", "number", "many", "most"] := by
    obtain ⟨fd, F⟩ := c.defs (d := dd "is_writing" (tS 25)) (by simp [fn, fn0, fn1, fn2])
    exact dn_of F (He.glo_ok X G (c.facts (f := .glo "is_writing") (by simp [fa, fa0, fa1, fa2, fa3]))) fun _ _ _ _ _ _ us hl => match us, hl with | [_, _, _, _], _ => rfl
  have d12 : Dn K mg "is_day" (tS 26) ["value", "many", "most"] := by
    obtain ⟨fd, F⟩ := c.defs (d := dd "is_day" (tS 26)) (by simp [fn, fn0, fn1, fn2])
    exact dn_of F (He.glo_ok X G (c.facts (f := .glo "is_day") (by simp [fa, fa0, fa1, fa2, fa3]))) fun _ _ _ _ _ _ us hl => match us, hl with | [_, _, _], _ => rfl
  have d13 : Dn K mg "check_days" (tS 27) ["days", "many", "most"] := by
    obtain ⟨fd, F⟩ := c.defs (d := dd "check_days" (tS 27)) (by simp [fn, fn0, fn1, fn2])
    exact dn_of F (He.glo_ok X G (c.facts (f := .glo "check_days") (by simp [fa, fa0, fa1, fa2, fa3]))) fun _ _ _ _ _ _ us hl => match us, hl with | [_, _, _], _ => rfl
  have d14 : Dn K mg "mask_of" (tS 29) ["tablet"] := by
    obtain ⟨fd, F⟩ := c.defs (d := dd "mask_of" (tS 29)) (by simp [fn, fn0, fn1, fn2])
    exact dn_of F (He.glo_ok X G (c.facts (f := .glo "mask_of") (by simp [fa, fa0, fa1, fa2, fa3]))) fun _ _ _ _ _ _ us hl => match us, hl with | [_], _ => rfl
  have d15 : Dn K mg "tablet_of" (tS 30) ["mask"] := by
    obtain ⟨fd, F⟩ := c.defs (d := dd "tablet_of" (tS 30)) (by simp [fn, fn0, fn1, fn2])
    exact dn_of F (He.glo_ok X G (c.facts (f := .glo "tablet_of") (by simp [fa, fa0, fa1, fa2, fa3]))) fun _ _ _ _ _ _ us hl => match us, hl with | [_], _ => rfl
  have d16 : Dn K mg "masks_of" (tS 31) ["library"] := by
    obtain ⟨fd, F⟩ := c.defs (d := dd "masks_of" (tS 31)) (by simp [fn, fn0, fn1, fn2])
    exact dn_of F (He.glo_ok X G (c.facts (f := .glo "masks_of") (by simp [fa, fa0, fa1, fa2, fa3]))) fun _ _ _ _ _ _ us hl => match us, hl with | [_], _ => rfl
  have d17 : Dn K mg "sum_at" (tS 32) ["masks", "numbers"] := by
    obtain ⟨fd, F⟩ := c.defs (d := dd "sum_at" (tS 32)) (by simp [fn, fn0, fn1, fn2])
    exact dn_of F (He.glo_ok X G (c.facts (f := .glo "sum_at") (by simp [fa, fa0, fa1, fa2, fa3]))) fun _ _ _ _ _ _ us hl => match us, hl with | [_, _], _ => rfl
  have d18 : Dn K mg "all_sums" (tS 33) ["masks"] := by
    obtain ⟨fd, F⟩ := c.defs (d := dd "all_sums" (tS 33)) (by simp [fn, fn0, fn1, fn2])
    exact dn_of F (He.glo_ok X G (c.facts (f := .glo "all_sums") (by simp [fa, fa0, fa1, fa2, fa3]))) fun _ _ _ _ _ _ us hl => match us, hl with | [_], _ => rfl
  have d19 : Dn K mg "rank_of" (tS 34) ["masks"] := by
    obtain ⟨fd, F⟩ := c.defs (d := dd "rank_of" (tS 34)) (by simp [fn, fn0, fn1, fn2])
    exact dn_of F (He.glo_ok X G (c.facts (f := .glo "rank_of") (by simp [fa, fa0, fa1, fa2, fa3]))) fun _ _ _ _ _ _ us hl => match us, hl with | [_], _ => rfl
  have d20 : Dn K mg "keep_all" (tS 35) ["masks", "texts"] := by
    obtain ⟨fd, F⟩ := c.defs (d := dd "keep_all" (tS 35)) (by simp [fn, fn0, fn1, fn2])
    exact dn_of F (He.glo_ok X G (c.facts (f := .glo "keep_all") (by simp [fa, fa0, fa1, fa2, fa3]))) fun _ _ _ _ _ _ us hl => match us, hl with | [_, _], _ => rfl
  have d21 : Dn K mg "without" (tS 36) ["masks", "number"] := by
    obtain ⟨fd, F⟩ := c.defs (d := dd "without" (tS 36)) (by simp [fn, fn0, fn1, fn2])
    exact dn_of F (He.glo_ok X G (c.facts (f := .glo "without") (by simp [fa, fa0, fa1, fa2, fa3]))) fun _ _ _ _ _ _ us hl => match us, hl with | [_, _], _ => rfl
  have d22 : Dn K mg "choices" (tS 37) ["numbers", "most"] := by
    obtain ⟨fd, F⟩ := c.defs (d := dd "choices" (tS 37)) (by simp [fn, fn0, fn1, fn2])
    exact dn_of F (He.glo_ok X G (c.facts (f := .glo "choices") (by simp [fa, fa0, fa1, fa2, fa3]))) fun _ _ _ _ _ _ us hl => match us, hl with | [_, _], _ => rfl
  have d23 : Dn K mg "spanned" (tS 38) ["library"] := by
    obtain ⟨fd, F⟩ := c.defs (d := dd "spanned" (tS 38)) (by simp [fn, fn0, fn1, fn2])
    exact dn_of F (He.glo_ok X G (c.facts (f := .glo "spanned") (by simp [fa, fa0, fa1, fa2, fa3]))) fun _ _ _ _ _ _ us hl => match us, hl with | [_], _ => rfl
  have d24 : Dn K mg "rank" (tS 39) ["library"] := by
    obtain ⟨fd, F⟩ := c.defs (d := dd "rank" (tS 39)) (by simp [fn, fn0, fn1, fn2])
    exact dn_of F (He.glo_ok X G (c.facts (f := .glo "rank") (by simp [fa, fa0, fa1, fa2, fa3]))) fun _ _ _ _ _ _ us hl => match us, hl with | [_], _ => rfl
  have d25 : Dn K mg "keeps" (tS 40) ["library"] := by
    obtain ⟨fd, F⟩ := c.defs (d := dd "keeps" (tS 40)) (by simp [fn, fn0, fn1, fn2])
    exact dn_of F (He.glo_ok X G (c.facts (f := .glo "keeps") (by simp [fa, fa0, fa1, fa2, fa3]))) fun _ _ _ _ _ _ us hl => match us, hl with | [_], _ => rfl
  have d26 : Dn K mg "after" (tS 41) ["library", "most", "days"] := by
    obtain ⟨fd, F⟩ := c.defs (d := dd "after" (tS 41)) (by simp [fn, fn0, fn1, fn2])
    exact dn_of F (He.glo_ok X G (c.facts (f := .glo "after") (by simp [fa, fa0, fa1, fa2, fa3]))) fun _ _ _ _ _ _ us hl => match us, hl with | [_, _, _], _ => rfl
  have d27 : Dn K mg "lost_on" (tS 42) ["library", "most", "days"] := by
    obtain ⟨fd, F⟩ := c.defs (d := dd "lost_on" (tS 42)) (by simp [fn, fn0, fn1, fn2])
    exact dn_of F (He.glo_ok X G (c.facts (f := .glo "lost_on") (by simp [fa, fa0, fa1, fa2, fa3]))) fun _ _ _ _ _ _ us hl => match us, hl with | [_, _, _], _ => rfl
  have d28 : Dn K mg "state_of" (tS 44) ["masks"] := by
    obtain ⟨fd, F⟩ := c.defs (d := dd "state_of" (tS 44)) (by simp [fn, fn0, fn1, fn2])
    exact dn_of F (He.glo_ok X G (c.facts (f := .glo "state_of") (by simp [fa, fa0, fa1, fa2, fa3]))) fun _ _ _ _ _ _ us hl => match us, hl with | [_], _ => rfl
  have d29 : Dn K mg "all_rests" (tS 45) ["state", "melts"] := by
    obtain ⟨fd, F⟩ := c.defs (d := dd "all_rests" (tS 45)) (by simp [fn, fn0, fn1, fn2])
    exact dn_of F (He.glo_ok X G (c.facts (f := .glo "all_rests") (by simp [fa, fa0, fa1, fa2, fa3]))) fun _ _ _ _ _ _ us hl => match us, hl with | [_, _], _ => rfl
  have d30 : Dn K mg "sums_of_few" (tS 46) ["masks", "most"] := by
    obtain ⟨fd, F⟩ := c.defs (d := dd "sums_of_few" (tS 46)) (by simp [fn, fn0, fn1, fn2])
    exact dn_of F (He.glo_ok X G (c.facts (f := .glo "sums_of_few") (by simp [fa, fa0, fa1, fa2, fa3]))) fun _ _ _ _ _ _ us hl => match us, hl with | [_, _], _ => rfl
  have d31 : Dn K mg "states_behind" (tS 47) ["rest", "most", "goal", "melts"] := by
    obtain ⟨fd, F⟩ := c.defs (d := dd "states_behind" (tS 47)) (by simp [fn, fn0, fn1, fn2])
    exact dn_of F (He.glo_ok X G (c.facts (f := .glo "states_behind") (by simp [fa, fa0, fa1, fa2, fa3]))) fun _ _ _ _ _ _ us hl => match us, hl with | [_, _, _, _], _ => rfl
  have d32 : Dk K ("Play", some "__init__") "__init__" "Play.__init__" (tM 48 0) ["self", "starts", "most", "goal", "melts"] := by
    obtain ⟨fd, F⟩ := c.defs (d := ddM "Play" "__init__" "Play.__init__" (tM 48 0)) (by simp [fn, fn0, fn1, fn2])
    exact dk_of F fun _ _ _ _ _ _ us hl => match us, hl with | [_, _, _, _, _], _ => rfl
  have d33 : Dk K ("Play", some "is_lost") "is_lost" "Play.is_lost" (tM 48 2) ["self", "rest", "lost"] := by
    obtain ⟨fd, F⟩ := c.defs (d := ddM "Play" "is_lost" "Play.is_lost" (tM 48 2)) (by simp [fn, fn0, fn1, fn2])
    exact dk_of F fun _ _ _ _ _ _ us hl => match us, hl with | [_, _, _], _ => rfl
  have d34 : Dk K ("Play", some "is_losing") "is_losing" "Play.is_losing" (tM 48 3) ["self", "state", "doomed"] := by
    obtain ⟨fd, F⟩ := c.defs (d := ddM "Play" "is_losing" "Play.is_losing" (tM 48 3)) (by simp [fn, fn0, fn1, fn2])
    exact dk_of F fun _ _ _ _ _ _ us hl => match us, hl with | [_, _, _], _ => rfl
  have d35 : Dk K ("Play", some "newly_lost") "newly_lost" "Play.newly_lost" (tM 48 4) ["self", "lost"] := by
    obtain ⟨fd, F⟩ := c.defs (d := ddM "Play" "newly_lost" "Play.newly_lost" (tM 48 4)) (by simp [fn, fn0, fn1, fn2])
    exact dk_of F fun _ _ _ _ _ _ us hl => match us, hl with | [_, _], _ => rfl
  have d36 : Dn K mg "days_lost" (tS 49) ["play"] := by
    obtain ⟨fd, F⟩ := c.defs (d := dd "days_lost" (tS 49)) (by simp [fn, fn0, fn1, fn2])
    exact dn_of F (He.glo_ok X G (c.facts (f := .glo "days_lost") (by simp [fa, fa0, fa1, fa2, fa3]))) fun _ _ _ _ _ _ us hl => match us, hl with | [_], _ => rfl
  have d37 : Dn K mg "is_tame" (tS 51) ["masks", "most", "number"] := by
    obtain ⟨fd, F⟩ := c.defs (d := dd "is_tame" (tS 51)) (by simp [fn, fn0, fn1, fn2])
    exact dn_of F (He.glo_ok X G (c.facts (f := .glo "is_tame") (by simp [fa, fa0, fa1, fa2, fa3]))) fun _ _ _ _ _ _ us hl => match us, hl with | [_, _, _], _ => rfl
  have d38 : Dn K mg "is_ring" (tS 52) ["masks", "row"] := by
    obtain ⟨fd, F⟩ := c.defs (d := dd "is_ring" (tS 52)) (by simp [fn, fn0, fn1, fn2])
    exact dn_of F (He.glo_ok X G (c.facts (f := .glo "is_ring") (by simp [fa, fa0, fa1, fa2, fa3]))) fun _ _ _ _ _ _ us hl => match us, hl with | [_, _], _ => rfl
  have d39 : Dn K mg "are_scheme" (tS 53) ["masks", "texts", "most"] := by
    obtain ⟨fd, F⟩ := c.defs (d := dd "are_scheme" (tS 53)) (by simp [fn, fn0, fn1, fn2])
    exact dn_of F (He.glo_ok X G (c.facts (f := .glo "are_scheme") (by simp [fa, fa0, fa1, fa2, fa3]))) fun _ _ _ _ _ _ us hl => match us, hl with | [_, _, _], _ => rfl
  have d40 : Dn K mg "every_tablet" (tS 54) ["texts"] := by
    obtain ⟨fd, F⟩ := c.defs (d := dd "every_tablet" (tS 54)) (by simp [fn, fn0, fn1, fn2])
    exact dn_of F (He.glo_ok X G (c.facts (f := .glo "every_tablet") (by simp [fa, fa0, fa1, fa2, fa3]))) fun _ _ _ _ _ _ us hl => match us, hl with | [_], _ => rfl
  have d41 : Dn K mg "sorted_rows" (tS 55) ["kinds", "many"] := by
    obtain ⟨fd, F⟩ := c.defs (d := dd "sorted_rows" (tS 55)) (by simp [fn, fn0, fn1, fn2])
    exact dn_of F (He.glo_ok X G (c.facts (f := .glo "sorted_rows") (by simp [fa, fa0, fa1, fa2, fa3]))) fun _ _ _ _ _ _ us hl => match us, hl with | [_, _], _ => rfl
  have d42 : Dn K mg "least_tablets" (tS 56) ["texts", "most"] := by
    obtain ⟨fd, F⟩ := c.defs (d := dd "least_tablets" (tS 56)) (by simp [fn, fn0, fn1, fn2])
    exact dn_of F (He.glo_ok X G (c.facts (f := .glo "least_tablets") (by simp [fa, fa0, fa1, fa2, fa3]))) fun _ _ _ _ _ _ us hl => match us, hl with | [_, _], _ => rfl
  have d43 : Dn K mg "tame" (tS 57) ["library", "most"] := by
    obtain ⟨fd, F⟩ := c.defs (d := dd "tame" (tS 57)) (by simp [fn, fn0, fn1, fn2])
    exact dn_of F (He.glo_ok X G (c.facts (f := .glo "tame") (by simp [fa, fa0, fa1, fa2, fa3]))) fun _ _ _ _ _ _ us hl => match us, hl with | [_, _], _ => rfl
  have d44 : Dn K mg "rings" (tS 58) ["library", "most"] := by
    obtain ⟨fd, F⟩ := c.defs (d := dd "rings" (tS 58)) (by simp [fn, fn0, fn1, fn2])
    exact dn_of F (He.glo_ok X G (c.facts (f := .glo "rings") (by simp [fa, fa0, fa1, fa2, fa3]))) fun _ _ _ _ _ _ us hl => match us, hl with | [_, _], _ => rfl
  have d45 : Dn K mg "is_scheme" (tS 59) ["library", "most"] := by
    obtain ⟨fd, F⟩ := c.defs (d := dd "is_scheme" (tS 59)) (by simp [fn, fn0, fn1, fn2])
    exact dn_of F (He.glo_ok X G (c.facts (f := .glo "is_scheme") (by simp [fa, fa0, fa1, fa2, fa3]))) fun _ _ _ _ _ _ us hl => match us, hl with | [_, _], _ => rfl
  have d46 : Dn K mg "can_be" (tS 60) ["texts", "tablets", "most"] := by
    obtain ⟨fd, F⟩ := c.defs (d := dd "can_be" (tS 60)) (by simp [fn, fn0, fn1, fn2])
    exact dn_of F (He.glo_ok X G (c.facts (f := .glo "can_be") (by simp [fa, fa0, fa1, fa2, fa3]))) fun _ _ _ _ _ _ us hl => match us, hl with | [_, _, _], _ => rfl
  have d47 : Dn K mg "schemes" (tS 61) ["texts", "tablets", "most"] := by
    obtain ⟨fd, F⟩ := c.defs (d := dd "schemes" (tS 61)) (by simp [fn, fn0, fn1, fn2])
    exact dn_of F (He.glo_ok X G (c.facts (f := .glo "schemes") (by simp [fa, fa0, fa1, fa2, fa3]))) fun _ _ _ _ _ _ us hl => match us, hl with | [_, _, _], _ => rfl
  have d48 : Dn K mg "count_schemes" (tS 62) ["texts", "tablets", "most"] := by
    obtain ⟨fd, F⟩ := c.defs (d := dd "count_schemes" (tS 62)) (by simp [fn, fn0, fn1, fn2])
    exact dn_of F (He.glo_ok X G (c.facts (f := .glo "count_schemes") (by simp [fa, fa0, fa1, fa2, fa3]))) fun _ _ _ _ _ _ us hl => match us, hl with | [_, _, _], _ => rfl
  have d49 : Dn K mg "fewest_tablets" (tS 63) ["texts", "most"] := by
    obtain ⟨fd, F⟩ := c.defs (d := dd "fewest_tablets" (tS 63)) (by simp [fn, fn0, fn1, fn2])
    exact dn_of F (He.glo_ok X G (c.facts (f := .glo "fewest_tablets") (by simp [fa, fa0, fa1, fa2, fa3]))) fun _ _ _ _ _ _ us hl => match us, hl with | [_, _], _ => rfl
  have d50 : Dn K mg "play_of" (tS 65) ["library", "most", "melts"] := by
    obtain ⟨fd, F⟩ := c.defs (d := dd "play_of" (tS 65)) (by simp [fn, fn0, fn1, fn2])
    exact dn_of F (He.glo_ok X G (c.facts (f := .glo "play_of") (by simp [fa, fa0, fa1, fa2, fa3]))) fun _ _ _ _ _ _ us hl => match us, hl with | [_, _, _], _ => rfl
  have d51 : Dn K mg "best_rows" (tS 66) ["lost", "masks", "most", "number"] := by
    obtain ⟨fd, F⟩ := c.defs (d := dd "best_rows" (tS 66)) (by simp [fn, fn0, fn1, fn2])
    exact dn_of F (He.glo_ok X G (c.facts (f := .glo "best_rows") (by simp [fa, fa0, fa1, fa2, fa3]))) fun _ _ _ _ _ _ us hl => match us, hl with | [_, _, _, _], _ => rfl
  have d52 : Dn K mg "soonest_loss" (tS 67) ["library", "most", "melts"] := by
    obtain ⟨fd, F⟩ := c.defs (d := dd "soonest_loss" (tS 67)) (by simp [fn, fn0, fn1, fn2])
    exact dn_of F (He.glo_ok X G (c.facts (f := .glo "soonest_loss") (by simp [fa, fa0, fa1, fa2, fa3]))) fun _ _ _ _ _ _ us hl => match us, hl with | [_, _, _], _ => rfl
  have d53 : Dn K mg "lost_within" (tS 68) ["library", "most"] := by
    obtain ⟨fd, F⟩ := c.defs (d := dd "lost_within" (tS 68)) (by simp [fn, fn0, fn1, fn2])
    exact dn_of F (He.glo_ok X G (c.facts (f := .glo "lost_within") (by simp [fa, fa0, fa1, fa2, fa3]))) fun _ _ _ _ _ _ us hl => match us, hl with | [_, _], _ => rfl
  have d54 : Dn K mg "kept_for_ever" (tS 69) ["library", "most"] := by
    obtain ⟨fd, F⟩ := c.defs (d := dd "kept_for_ever" (tS 69)) (by simp [fn, fn0, fn1, fn2])
    exact dn_of F (He.glo_ok X G (c.facts (f := .glo "kept_for_ever") (by simp [fa, fa0, fa1, fa2, fa3]))) fun _ _ _ _ _ _ us hl => match us, hl with | [_, _], _ => rfl
  have d55 : Dn K mg "good_writings" (tS 70) ["library", "most", "number"] := by
    obtain ⟨fd, F⟩ := c.defs (d := dd "good_writings" (tS 70)) (by simp [fn, fn0, fn1, fn2])
    exact dn_of F (He.glo_ok X G (c.facts (f := .glo "good_writings") (by simp [fa, fa0, fa1, fa2, fa3]))) fun _ _ _ _ _ _ us hl => match us, hl with | [_, _, _], _ => rfl
  have d56 : Dn K mg "is_lost_within" (tS 71) ["play", "lost", "rest", "days"] := by
    obtain ⟨fd, F⟩ := c.defs (d := dd "is_lost_within" (tS 71)) (by simp [fn, fn0, fn1, fn2])
    exact dn_of F (He.glo_ok X G (c.facts (f := .glo "is_lost_within") (by simp [fa, fa0, fa1, fa2, fa3]))) fun _ _ _ _ _ _ us hl => match us, hl with | [_, _, _, _], _ => rfl
  have d57 : Dn K mg "soonest_lost" (tS 72) ["play", "lost", "masks", "days"] := by
    obtain ⟨fd, F⟩ := c.defs (d := dd "soonest_lost" (tS 72)) (by simp [fn, fn0, fn1, fn2])
    exact dn_of F (He.glo_ok X G (c.facts (f := .glo "soonest_lost") (by simp [fa, fa0, fa1, fa2, fa3]))) fun _ _ _ _ _ _ us hl => match us, hl with | [_, _, _, _], _ => rfl
  have d58 : Dn K mg "downfall" (tS 73) ["library", "most"] := by
    obtain ⟨fd, F⟩ := c.defs (d := dd "downfall" (tS 73)) (by simp [fn, fn0, fn1, fn2])
    exact dn_of F (He.glo_ok X G (c.facts (f := .glo "downfall") (by simp [fa, fa0, fa1, fa2, fa3]))) fun _ _ _ _ _ _ us hl => match us, hl with | [_, _], _ => rfl
  have d59 : Dn K mg "is_rank_kept" (tS 74) ["masks", "most", "goal"] := by
    obtain ⟨fd, F⟩ := c.defs (d := dd "is_rank_kept" (tS 74)) (by simp [fn, fn0, fn1, fn2])
    exact dn_of F (He.glo_ok X G (c.facts (f := .glo "is_rank_kept") (by simp [fa, fa0, fa1, fa2, fa3]))) fun _ _ _ _ _ _ us hl => match us, hl with | [_, _, _], _ => rfl
  have d60 : Dn K mg "rank_kept" (tS 75) ["library", "most"] := by
    obtain ⟨fd, F⟩ := c.defs (d := dd "rank_kept" (tS 75)) (by simp [fn, fn0, fn1, fn2])
    exact dn_of F (He.glo_ok X G (c.facts (f := .glo "rank_kept") (by simp [fa, fa0, fa1, fa2, fa3]))) fun _ _ _ _ _ _ us hl => match us, hl with | [_, _], _ => rfl
  have d61 : Dn K mg "kept_additions" (tS 76) ["library", "most", "many"] := by
    obtain ⟨fd, F⟩ := c.defs (d := dd "kept_additions" (tS 76)) (by simp [fn, fn0, fn1, fn2])
    exact dn_of F (He.glo_ok X G (c.facts (f := .glo "kept_additions") (by simp [fa, fa0, fa1, fa2, fa3]))) fun _ _ _ _ _ _ us hl => match us, hl with | [_, _, _], _ => rfl
  have d62 : Dn K mg "additions" (tS 77) ["library", "most"] := by
    obtain ⟨fd, F⟩ := c.defs (d := dd "additions" (tS 77)) (by simp [fn, fn0, fn1, fn2])
    exact dn_of F (He.glo_ok X G (c.facts (f := .glo "additions") (by simp [fa, fa0, fa1, fa2, fa3]))) fun _ _ _ _ _ _ us hl => match us, hl with | [_, _], _ => rfl
  have d63 : Dn K mg "lowest" (tS 80) ["part", "whole"] := by
    obtain ⟨fd, F⟩ := c.defs (d := dd "lowest" (tS 80)) (by simp [fn, fn0, fn1, fn2])
    exact dn_of F (He.glo_ok X G (c.facts (f := .glo "lowest") (by simp [fa, fa0, fa1, fa2, fa3]))) fun _ _ _ _ _ _ us hl => match us, hl with | [_, _], _ => rfl
  have d64 : Dn K mg "a_day_longer" (tS 81) ["play", "kept"] := by
    obtain ⟨fd, F⟩ := c.defs (d := dd "a_day_longer" (tS 81)) (by simp [fn, fn0, fn1, fn2])
    exact dn_of F (He.glo_ok X G (c.facts (f := .glo "a_day_longer") (by simp [fa, fa0, fa1, fa2, fa3]))) fun _ _ _ _ _ _ us hl => match us, hl with | [_, _], _ => rfl
  have d65 : Dn K mg "best_chance" (tS 82) ["library", "most", "days"] := by
    obtain ⟨fd, F⟩ := c.defs (d := dd "best_chance" (tS 82)) (by simp [fn, fn0, fn1, fn2])
    exact dn_of F (He.glo_ok X G (c.facts (f := .glo "best_chance") (by simp [fa, fa0, fa1, fa2, fa3]))) fun _ _ _ _ _ _ us hl => match us, hl with | [_, _, _], _ => rfl
  have d66 : Dn K mg "idle_chance" (tS 83) ["library", "days"] := by
    obtain ⟨fd, F⟩ := c.defs (d := dd "idle_chance" (tS 83)) (by simp [fn, fn0, fn1, fn2])
    exact dn_of F (He.glo_ok X G (c.facts (f := .glo "idle_chance") (by simp [fa, fa0, fa1, fa2, fa3]))) fun _ _ _ _ _ _ us hl => match us, hl with | [_, _], _ => rfl
  have d67 : Dn K mg "_law_taken" (tS 85) ["row", "many"] := by
    obtain ⟨fd, F⟩ := c.defs (d := dd "_law_taken" (tS 85)) (by simp [fn, fn0, fn1, fn2])
    exact dn_of F (He.glo_ok X G (c.facts (f := .glo "_law_taken") (by simp [fa, fa0, fa1, fa2, fa3]))) fun _ _ _ _ _ _ us hl => match us, hl with | [_, _], _ => rfl
  have d68 : Dn K mg "law" (tS 86) ["script"] := by
    obtain ⟨fd, F⟩ := c.defs (d := dd "law" (tS 86)) (by simp [fn, fn0, fn1, fn2])
    exact dn_of F (He.glo_ok X G (c.facts (f := .glo "law") (by simp [fa, fa0, fa1, fa2, fa3]))) fun _ _ _ _ _ _ us hl => match us, hl with | [_], _ => rfl
  exact ⟨d0,
    d1,
    d2,
    d3,
    d4,
    d5,
    d6,
    d7,
    d8,
    d9,
    d10,
    d11,
    d12,
    d13,
    d14,
    d15,
    d16,
    d17,
    d18,
    d19,
    d20,
    d21,
    d22,
    d23,
    d24,
    d25,
    d26,
    d27,
    d28,
    d29,
    d30,
    d31,
    d32,
    d33,
    d34,
    d35,
    d36,
    d37,
    d38,
    d39,
    d40,
    d41,
    d42,
    d43,
    d44,
    d45,
    d46,
    d47,
    d48,
    d49,
    d50,
    d51,
    d52,
    d53,
    d54,
    d55,
    d56,
    d57,
    d58,
    d59,
    d60,
    d61,
    d62,
    d63,
    d64,
    d65,
    d66,
    d67,
    d68,
    He.cls_ok (c.facts (f := .cls "Play") (by simp [fa, fa0, fa1, fa2, fa3])),
    He.noat_ok (c.facts (f := .noat "Play" "rests") (by simp [fa, fa0, fa1, fa2, fa3])),
    He.noat_ok (c.facts (f := .noat "Play" "states") (by simp [fa, fa0, fa1, fa2, fa3])),
    He.meth_ok (c.facts (f := .meth "Play" "is_losing") (by simp [fa, fa0, fa1, fa2, fa3])),
    He.meth_ok (c.facts (f := .meth "Play" "is_lost") (by simp [fa, fa0, fa1, fa2, fa3])),
    He.meth_ok (c.facts (f := .meth "Play" "newly_lost") (by simp [fa, fa0, fa1, fa2, fa3])),
    He.mkr_ok (c.facts (f := .mkr "Play") (by simp [fa, fa0, fa1, fa2, fa3])),
    He.glo_ok X G (c.facts (f := .glo "Play") (by simp [fa, fa0, fa1, fa2, fa3])),
    PySem.W.mg_of X G (He.eqO_ok mo),
    He.free_ok X G (c.facts (f := .free "all") (by simp [fa, fa0, fa1, fa2, fa3])),
    He.free_ok X G (c.facts (f := .free "any") (by simp [fa, fa0, fa1, fa2, fa3])),
    He.free_ok X G (c.facts (f := .free "bool") (by simp [fa, fa0, fa1, fa2, fa3])),
    He.free_ok X G (c.facts (f := .free "enumerate") (by simp [fa, fa0, fa1, fa2, fa3])),
    He.free_ok X G (c.facts (f := .free "int") (by simp [fa, fa0, fa1, fa2, fa3])),
    He.free_ok X G (c.facts (f := .free "isinstance") (by simp [fa, fa0, fa1, fa2, fa3])),
    He.free_ok X G (c.facts (f := .free "len") (by simp [fa, fa0, fa1, fa2, fa3])),
    He.free_ok X G (c.facts (f := .free "list") (by simp [fa, fa0, fa1, fa2, fa3])),
    He.free_ok X G (c.facts (f := .free "max") (by simp [fa, fa0, fa1, fa2, fa3])),
    He.free_ok X G (c.facts (f := .free "min") (by simp [fa, fa0, fa1, fa2, fa3])),
    He.free_ok X G (c.facts (f := .free "range") (by simp [fa, fa0, fa1, fa2, fa3])),
    He.free_ok X G (c.facts (f := .free "reversed") (by simp [fa, fa0, fa1, fa2, fa3])),
    He.free_ok X G (c.facts (f := .free "sorted") (by simp [fa, fa0, fa1, fa2, fa3])),
    He.free_ok X G (c.facts (f := .free "sum") (by simp [fa, fa0, fa1, fa2, fa3])),
    He.free_ok X G (c.facts (f := .free "tuple") (by simp [fa, fa0, fa1, fa2, fa3])),
    He.free_ok X G (c.facts (f := .free "zip") (by simp [fa, fa0, fa1, fa2, fa3])),
    ⟨He.int_ok X G (c.facts (f := .int "MOST_CHANCE_DAYS" 30) (by simp [fa, fa0, fa1, fa2, fa3]))⟩,
    ⟨He.int_ok X G (c.facts (f := .int "MOST_DAYS" 60) (by simp [fa, fa0, fa1, fa2, fa3]))⟩,
    ⟨He.int_ok X G (c.facts (f := .int "MOST_TABLETS" 6) (by simp [fa, fa0, fa1, fa2, fa3]))⟩,
    ⟨He.int_ok X G (c.facts (f := .int "MOST_TEXTS" 3) (by simp [fa, fa0, fa1, fa2, fa3]))⟩,
    ⟨He.int_ok X G (c.facts (f := .int "MOST_WRITTEN_FROM" 3) (by simp [fa, fa0, fa1, fa2, fa3]))⟩,
    ⟨_, tb ("Play", some "is_losing") (by simp [tf])⟩,
    ⟨_, tb ("Play", some "is_lost") (by simp [tf])⟩,
    ⟨_, tb ("are_scheme", none) (by simp [tf])⟩,
    ⟨_, tb ("are_tablets", none) (by simp [tf])⟩,
    ⟨_, tb ("is_lost_within", none) (by simp [tf])⟩,
    ⟨_, tb ("is_ring", none) (by simp [tf])⟩,
    ⟨_, tb ("is_tame", none) (by simp [tf])⟩⟩
theorem holds_of (math : ∀ ns : List Int, ns.length ≤ 63 → ∃ h', c_law [.fl (ns.map .int)] [] = some (.ok (.d (.bool true)), h')) : PySem.Challenge.rw_meltlibrary_k08_known_libraries.Holds := by
  w_on; o_law
  refine HandSHeadRun.head_imp (r := PySem.W.OpenLaw.row PySem.Challenge.rw_meltlibrary_k08_known_libraries) (q := PySem.W.view (PySem.W.OpenLaw.row PySem.Challenge.rw_meltlibrary_k08_known_libraries).prog [86]) (H := hk) (ob := ob) (M := 5000) (loose := loose) (d := HandSHeadRun.topDef (PySem.W.OpenLaw.row PySem.Challenge.rw_meltlibrary_k08_known_libraries).prog 86) (kwd := []) ob_eq
    run (by kernel_rfl) (by kernel_rfl) (by kernel_rfl) (by rfl) (by first | assumption | decide +kernel) (by decide +kernel) ⟨rfl, rfl, rfl, rfl, rfl, by decide +kernel⟩ ?hw ?hc
  case hw => w_witness2
  case hc =>
    refine LamX.walk_ofTsE (l := PySem.Challenge.rw_meltlibrary_k08_known_libraries) (n := 63) (k := 10) (x := "script") (CX := fun w => L2.CX PySem.Challenge.rw_meltlibrary_k08_known_libraries.prog w) rfl (by decide) (by kernel_rfl) ⟨rfl, by decide, by decide⟩ ?F (fun _ _ _ _ _ z => cx_none z)
    intro w mg lawAd h Y G hmg0
    obtain ⟨K, KX, c⟩ := Y
    have hmg : mg ("law" : PySem.Str) = some (.ref lawAd) := by
      have e : (HandSHeadRun.topDef (PySem.W.OpenLaw.row PySem.Challenge.rw_meltlibrary_k08_known_libraries).prog 86).name = ("law" : PySem.Str) := by kernel_rfl
      rw [← e]
      exact hmg0
    obtain ⟨fd, D⟩ := c.t.d.defs (d := dd "law" (tS 86)) (by simp [fn, fn0, fn1, fn2])
    exact ⟨K, KX, law_atE (st := tS 86) c KX hmg (He.glo_ok KX G (c.t.d.facts (f := .glo "law") (by simp [fa, fa0, fa1, fa2, fa3]))) D (fun _ _ _ _ _ _ us hl => match us, hl with | [_], _ => rfl) (fun base T hB hN tb => ok_law (facts hB hN c.t.d c.more tb)) math⟩
end MK.E
namespace MK
open PySem MV
/-! ### draws -/
/-- the row's cell -/
def R (ns : List Int) (i s r : Int) : Cell := .lst [.fl (ns.map .int), .d (.int i), .d (.int s), .d (.int r)]
theorem shut_len {h x : AH} {v : Val} (e : x.length = h.length) : shut h.length v x = x := by
  unfold shut
  rw [← e, List.take_length]
  split <;> rfl
theorem row_ix {ns : List Int} {i s r : Int} {rest : AH} {σ : SA} {e : CE} (he : e σ (R ns i s r :: rest) = some (.ok (.ref 0), R ns i s r :: rest)) :
    cOp gIx e (cK (.int 0)) σ (R ns i s r :: rest) = some (.ok (.fl (ns.map .int)), R ns i s r :: rest) ∧ cOp gIx e (cK (.int 1)) σ (R ns i s r :: rest) = some (.ok (.d (.int i)), R ns i s r :: rest) ∧
    cOp gIx e (cK (.int 2)) σ (R ns i s r :: rest) = some (.ok (.d (.int s)), R ns i s r :: rest) ∧ cOp gIx e (cK (.int 3)) σ (R ns i s r :: rest) = some (.ok (.d (.int r)), R ns i s r :: rest) :=
  ⟨op_ok he k_ok rfl, op_ok he k_ok rfl, op_ok he k_ok rfl, op_ok he k_ok rfl⟩
theorem mod_ok' {a b : Int} (hb : 0 < b) : dMod (.int a) (.int b) = some (.int (a % b)) := by unfold dMod dI; simp [ret_ap, lift_ap, bnd_ap, ite_ap, cVar, cK, cOp, cAp, cCons, cNil, cTest, cTru, cIsi, cNotV, cAndV, cOrV, cChain, cCall, cIsN, sRet, sRetN, sSeq, sIf, sAsg, sNil, sBy, sByT, sDrop, cNot, cAnd, cOr, cIfE, cNeg, viewD, viewM, truD, tyN, isN, asB, gD, gDM, dLe, dLt, dGe, dGt, dI, yes2, dSub, dMul, dAdd, dXor, dAnd, asI, g1, fLen, fInt, fTup, fList, gN, setAll, cIter, iData, gTup, gLst, shut_self, sNever, cYes, gTupT, gAll, allD_d, hb]
theorem fdiv_ok' {a b : Int} (hb : 0 < b) (h2 : b < 1073741824) : dFdiv (.int a) (.int b) = some (.int (a / b)) := by unfold dFdiv dI; simp [ret_ap, lift_ap, bnd_ap, ite_ap, cVar, cK, cOp, cAp, cCons, cNil, cTest, cTru, cIsi, cNotV, cAndV, cOrV, cChain, cCall, cIsN, sRet, sRetN, sSeq, sIf, sAsg, sNil, sBy, sByT, sDrop, cNot, cAnd, cOr, cIfE, cNeg, viewD, viewM, truD, tyN, isN, asB, gD, gDM, dLe, dLt, dGe, dGt, dI, yes2, dSub, dMul, dAdd, dXor, dAnd, asI, g1, fLen, fInt, fTup, fList, gN, setAll, cIter, iData, gTup, gLst, shut_self, sNever, cYes, gTupT, gAll, allD_d, hb, h2]
theorem mul_ok' {a : Int} {b : Int} (hb : -(2 ^ 64) < b ∧ b < 2 ^ 64) : dMul (.int a) (.int b) = some (.int (a * b)) := by
  unfold dMul dI
  simp only
  rw [if_pos (decide_eq_true (.inr hb))]
theorem row_set {ns : List Int} {i s r x : Int} {rest : AH} : setC (.ref 0) (.d (.int 1)) (.d (.int x)) (R ns i s r :: rest) = some (R ns x s r :: rest) ∧ setC (.ref 0) (.d (.int 2)) (.d (.int x)) (R ns i s r :: rest) = some (R ns i x r :: rest) ∧
    setC (.ref 0) (.d (.int 3)) (.d (.int x)) (R ns i s r :: rest) = some (R ns i s x :: rest) := ⟨rfl, rfl, rfl⟩
theorem pow18 : dPow (.int 10) (.int 18) = some (.int (10 ^ 18)) := by rfl
theorem taken_ev {ns : List Int} {i s r many : Int} {rest : AH} (hi : 0 ≤ i) (h1 : 1 ≤ many) (h2 : many < 1000000) :
    ∃ i' s' r' v, c__law_taken [.ref 0, .d (.int many)] (R ns i s r :: rest) = some (.ok (.d (.int v)), R ns i' s' r' :: rest) ∧ 0 ≤ i' ∧ 0 ≤ v ∧ v < many := by
  have hm : 0 < many := by omega
  have hm2 : many < 1073741824 := by omega
  have key : ∀ {v : Int} {x : AH}, x.length = (R ns i s r :: rest).length → ∀ {cb : CS}, cb ([Val.ref 0, .d (.int many)].map some ++ List.replicate (4 - 2) none) (R ns i s r :: rest) = some (.rt (.d (.int v)), x) → cDef 4 cb [.ref 0, .d (.int many)] (R ns i s r :: rest) = some (.ok (.d (.int v)), x) := by
    intro v x hx cb e
    rw [cDef_rt e, shut_len hx]
  unfold c__law_taken
  by_cases hr : r > 0
  · refine ⟨i, s, r / many, r % many, key (x := R ns i s (r / many) :: rest) rfl ?_, hi, Int.emod_nonneg _ (by omega), Int.emod_lt_of_pos _ hm⟩
    refine seq_rt (if_t (h' := R ns i s r :: rest) ?_ (seq_nx (asg_n (opd_ok (ap1_ok ((row_ix (var_ok rfl)).2.2.2) rfl) (var_ok rfl) (mod_ok' hm))) (seq_nx (store_ok' (opd_ok ((row_ix (var_ok rfl)).2.2.2) (var_ok rfl) (fdiv_ok' hm hm2)) (var_ok rfl) k_ok row_set.2.2) (ret_ok (var_ok rfl)))))
    refine test_ok (opd_ok ((row_ix (var_ok rfl)).2.2.2) k_ok ?_)
    show some (PyData.bool (decide ((0 : Int) < r))) = _
    rw [decide_eq_true hr]
  · have t0 : ∀ σ : SA, σ[0]? = some (some (.ref 0)) → cTest (cOp (gD dGt) (cOp gIx (cVar 0) (cK (.int 3))) (cK (.int 0))) σ (R ns i s r :: rest) = some (.ok false, R ns i s r :: rest) := by
      intro σ e
      refine test_ok (opd_ok ((row_ix (var_ok e)).2.2.2) k_ok ?_)
      show some (PyData.bool (decide ((0 : Int) < r))) = _
      rw [decide_eq_false hr]
    have t1 : ∀ σ : SA, σ[0]? = some (some (.ref 0)) → sStore setC (cVar 0) (cK (.int 1)) (cOp (gDM dAdd) (cOp gIx (cVar 0) (cK (.int 1))) (cK (.int 1))) σ (R ns i s r :: rest) = some (.nx σ, R ns (i + 1) s r :: rest) := by
      intro σ e
      exact store_ok' (opm_ok ((row_ix (var_ok e)).2.1) k_ok rfl) (var_ok e) k_ok row_set.1
    have t2 : ∀ σ : SA, σ[0]? = some (some (.ref 0)) → cTest (cOp (gD dGt) (cOp gIx (cVar 0) (cK (.int 1))) (cAp (g1 fLen) (cCons (cOp gIx (cVar 0) (cK (.int 0))) (cNil)))) σ (R ns (i + 1) s r :: rest) = some (.ok (decide ((ns.length : Int) < i + 1)), R ns (i + 1) s r :: rest) := by
      intro σ e
      refine test_ok (opd_ok ((row_ix (var_ok e)).2.1) (ap_ok (v := .d (.int (ns.length : Nat))) (one_ok (row_ix (var_ok e)).1) ?_) rfl)
      show some (Val.d (.int (((ns.map PyData.int).length : Nat) : Int)), _) = _
      rw [List.length_map]
    by_cases hl : (ns.length : Int) < i + 1
    · have t3 : ∀ σ : SA, σ[0]? = some (some (.ref 0)) → sStore setC (cVar 0) (cK (.int 2)) (cOp (gD dMod) (cAp (g1 fInt) (cCons (cOp (gDM dAdd) (cOp (gD dMul) (cOp gIx (cVar 0) (cK (.int 2))) (cK (.int 48271))) (cK (.int 11))) (cNil))) (cK (.int 2147483647))) σ (R ns (i + 1) s r :: rest) = some (.nx σ, R ns (i + 1) ((s * 48271 + 11) % 2147483647) r :: rest) := by
        intro σ e
        exact store_ok' (opd_ok (ap1_ok (opm_ok (opd_ok ((row_ix (var_ok e)).2.2.1) k_ok (mul_ok' (by decide))) k_ok rfl) rfl) k_ok (mod_ok' (by decide))) (var_ok e) k_ok row_set.2.1
      rw [show decide ((ns.length : Int) < i + 1) = true from decide_eq_true hl] at t2
      refine ⟨i + 1, (s * 48271 + 11) % 2147483647, r, ((s * 48271 + 11) % 2147483647 / 7) % many, key (x := R ns (i + 1) ((s * 48271 + 11) % 2147483647) r :: rest) rfl ?_, by omega, Int.emod_nonneg _ (by omega), Int.emod_lt_of_pos _ hm⟩
      exact seq_nx (if_f (t0 _ rfl) nil_nx) (seq_nx (t1 _ rfl) (seq_rt (if_t (t2 _ rfl) (seq_nx (t3 _ rfl) (ret_ok (opd_ok (ap1_ok (opd_ok ((row_ix (var_ok rfl)).2.2.1) k_ok (fdiv_ok' (by decide) (by decide))) rfl) (var_ok rfl) (mod_ok' hm)))))))
    · rw [show decide ((ns.length : Int) < i + 1) = false from decide_eq_false hl] at t2
      have hlt : i.toNat < ns.length := by omega
      have hit : ((i.toNat : Nat) : Int) = i := Int.toNat_of_nonneg hi
      generalize hcv : ns[i.toNat] = cv
      have t3 : ∀ σ : SA, σ[0]? = some (some (.ref 0)) → cOp gIx (cOp gIx (cVar 0) (cK (.int 0))) (cOp (gD dSub) (cOp gIx (cVar 0) (cK (.int 1))) (cK (.int 1))) σ (R ns (i + 1) s r :: rest) = some (.ok (.d (.int cv)), R ns (i + 1) s r :: rest) := by
        intro σ e
        refine op_ok ((row_ix (var_ok e)).1) (opd_ok ((row_ix (var_ok e)).2.1) k_ok rfl) ?_
        show (L2.atI (ns.map PyData.int) (i + 1 - 1)).map (fun d => (Val.d d, _)) = _
        have ea : L2.atI (ns.map PyData.int) (i + 1 - 1) = some (.int cv) := by
          rw [show i + 1 - 1 = ((i.toNat : Nat) : Int) by omega]
          exact L2.atI_nat (by rw [List.getElem?_map, List.getElem?_eq_getElem hlt, hcv]; rfl)
        rw [ea]
        rfl
      have t4 : ∀ σ : SA, σ[0]? = some (some (.ref 0)) → σ[3]? = some (some (.d (.int cv))) → sStore setC (cVar 0) (cK (.int 2)) (cOp (gD dMod) (cAp (g1 fInt) (cCons (cOp (gDM dAdd) (cOp (gDM dAdd) (cOp (gD dMul) (cOp gIx (cVar 0) (cK (.int 2))) (cK (.int 48271))) (cVar 3)) (cK (.int 11))) (cNil))) (cK (.int 2147483647))) σ (R ns (i + 1) s r :: rest) = some (.nx σ, R ns (i + 1) ((s * 48271 + cv + 11) % 2147483647) r :: rest) := by
        intro σ e e3
        exact store_ok' (opd_ok (ap1_ok (opm_ok (opm_ok (opd_ok ((row_ix (var_ok e)).2.2.1) k_ok (mul_ok' (by decide))) (var_ok e3) rfl) k_ok rfl) rfl) k_ok (mod_ok' (by decide))) (var_ok e) k_ok row_set.2.1
      generalize hs2 : (s * 48271 + cv + 11) % 2147483647 = s2 at t4
      have t5 : ∀ σ : SA, σ[0]? = some (some (.ref 0)) → σ[1]? = some (some (.d (.int many))) → σ[3]? = some (some (.d (.int cv))) → ∃ r', sIf (cTest (cOp (gD dGe) (cVar 3) (cOp (gD dPow) (cK (.int 10)) (cK (.int 18))))) (sStore setC (cVar 0) (cK (.int 3)) (cOp (gD dFdiv) (cVar 3) (cVar 1))) (sNil) σ (R ns (i + 1) s2 r :: rest) = some (.nx σ, R ns (i + 1) s2 r' :: rest) := by
        intro σ e e1 e3
        have et : cTest (cOp (gD dGe) (cVar 3) (cOp (gD dPow) (cK (.int 10)) (cK (.int 18)))) σ (R ns (i + 1) s2 r :: rest) = some (.ok (decide ((10 : Int) ^ 18 ≤ cv)), R ns (i + 1) s2 r :: rest) := test_ok (opd_ok (var_ok e3) (opd_ok k_ok k_ok pow18) rfl)
        cases hb : decide ((10 : Int) ^ 18 ≤ cv) with
        | true => rw [hb] at et; exact ⟨_, if_t et (store_ok' (opd_ok (var_ok e3) (var_ok e1) (fdiv_ok' hm hm2)) (var_ok e) k_ok row_set.2.2)⟩
        | false => rw [hb] at et; exact ⟨_, if_f et nil_nx⟩
      obtain ⟨r', t5⟩ := t5 [some (.ref 0), some (.d (.int many)), none, some (.d (.int cv))] rfl rfl rfl
      refine ⟨i + 1, s2, r', cv % many, key (x := R ns (i + 1) s2 r' :: rest) rfl ?_, by omega, Int.emod_nonneg _ (by omega), Int.emod_lt_of_pos _ hm⟩
      exact seq_nx (if_f (t0 _ rfl) nil_nx) (seq_nx (t1 _ rfl) (seq_nx (if_f (t2 _ rfl) nil_nx) (seq_nx (asg_n (t3 _ rfl)) (seq_nx (t4 _ rfl rfl) (seq_nx t5 (ret_ok (opd_ok (ap1_ok (var_ok rfl) rfl) (var_ok rfl) (mod_ok' hm))))))))
end MK
namespace MK
open PySem PySem.Spec PyProof.Rows L2 MV
def z0 : CS := sAsg (gN 1) (cAp gNewL (cCons (cVar 0) (cCons (cK (.int 0)) (cCons (cK (.int 808)) (cCons (cK (.int 0)) (cNil))))))
def z1 : CS := sTup [gN 2, gN 3] (cCons (cAp gTup (cCons (cK (.int 2)) (cCons (cAp gTup (cCons (cAp gTup (cCons (cK (.int 0)) (cNil))) (cCons (cAp gTup (cCons (cK (.int 1)) (cNil))) (cCons (cAp gTup (cCons (cK (.int 0)) (cCons (cK (.int 1)) (cNil)))) (cNil))))) (cNil)))) (cCons (cAp gTup (cCons (cK (.int 2)) (cCons (cAp gTup (cCons (cAp gTup (cCons (cK (.int 0)) (cNil))) (cCons (cAp gTup (cCons (cK (.int 1)) (cNil))) (cCons (cAp gTup (cNil)) (cNil))))) (cNil)))) (cNil)))
def z2 : CS := sIf (cOr (cNot (cTru (cCall 2 c_is_scheme (cCons (cVar 2) (cCons (cK (.int 2)) (cNil)))))) (cOr (cTru (cCall 2 c_is_scheme (cCons (cVar 2) (cCons (cK (.int 1)) (cNil))))) (cOr (cTest (cOp (gD dNe) (cCall 2 c_rings (cCons (cVar 2) (cCons (cK (.int 2)) (cNil)))) (cAp gTup (cCons (cAp gTup (cCons (cK (.int 0)) (cCons (cK (.int 1)) (cCons (cK (.int 2)) (cNil))))) (cNil))))) (cTest (cOp (gD dNe) (cCall 2 c_tame (cCons (cVar 2) (cCons (cK (.int 1)) (cNil)))) (cAp gTup (cNil))))))) (sRet (cK (.bool false))) (sNil)
def z3 : CS := sIf (cOr (cTest (cIsN false (cCall 2 c_lost_within (cCons (cVar 2) (cCons (cK (.int 2)) (cNil)))))) (cOr (cTest (cOp (gD dNe) (cCall 2 c_lost_within (cCons (cVar 2) (cCons (cK (.int 1)) (cNil)))) (cK (.int 2)))) (cTest (cOp (gD dNe) (cCall 2 c_lost_within (cCons (cVar 3) (cCons (cK (.int 3)) (cNil)))) (cK (.int 1)))))) (sRet (cK (.bool false))) (sNil)
def z4 : CS := sIf (cOr (cTest (cOp (gD dNe) (cCall 2 c_downfall (cCons (cVar 3) (cCons (cK (.int 3)) (cNil)))) (cAp gTup (cCons (cAp gTup (cCons (cK (.int 0)) (cCons (cAp gTup (cNil)) (cNil)))) (cNil))))) (cOr (cTest (cOp (gD dNe) (cCall 3 c_good_writings (cCons (cVar 2) (cCons (cK (.int 2)) (cCons (cK (.int 0)) (cNil))))) (cAp gTup (cCons (cAp gTup (cCons (cK (.int 1)) (cCons (cK (.int 2)) (cNil)))) (cNil))))) (cTest (cOp (gD dNotB) (cCall 1 c_keeps (cCons (cVar 3) (cNil))) (cK (.bool true)))))) (sRet (cK (.bool false))) (sNil)
def z5 : CS := sIf (cOr (cTest (cOp (gD dNe) (cCall 2 c_rank_kept (cCons (cVar 3) (cCons (cK (.int 2)) (cNil)))) (cK (.int 1)))) (cTest (cOp (gD dNe) (cCall 2 c_additions (cCons (cVar 3) (cCons (cK (.int 2)) (cNil)))) (cAp gTup (cCons (cAp gTup (cCons (cAp gTup (cCons (cK (.int 0)) (cCons (cK (.int 1)) (cNil)))) (cNil))) (cNil)))))) (sRet (cK (.bool false))) (sNil)
def z6 : CS := sAsg (gN 4) (cAp gTup (cCons (cK (.int 1)) (cCons (cAp gTup (cCons (cAp gTup (cCons (cK (.int 0)) (cNil))) (cCons (cAp gTup (cCons (cK (.int 0)) (cNil))) (cNil)))) (cNil))))
def z7 : CS := sIf (cOr (cTest (cOp (gD dNotB) (cCall 2 c_kept_for_ever (cCons (cVar 4) (cCons (cK (.int 1)) (cNil)))) (cK (.bool true)))) (cOr (cTest (cOp (gD dNe) (cCall 3 c_schemes (cCons (cK (.int 1)) (cCons (cK (.int 2)) (cCons (cK (.int 1)) (cNil))))) (cAp gTup (cCons (cVar 4) (cNil))))) (cTest (cOp (gD dNe) (cCall 3 c_count_schemes (cCons (cK (.int 2)) (cCons (cK (.int 3)) (cCons (cK (.int 1)) (cNil))))) (cK (.int 0)))))) (sRet (cK (.bool false))) (sNil)
def z8 : CS := sIf (cOr (cTest (cOp (gD dNe) (cLc (cIter iData (cAp gLst (cCons (cK (.int 1)) (cCons (cK (.int 2)) (cCons (cK (.int 3)) (cNil)))))) [7] (gN 7) (cYes) (cCall 2 c_fewest_tablets (cCons (cK (.int 3)) (cCons (cVar 7) (cNil))))) (cAp gLst (cCons (cK (.int 6)) (cCons (cK (.int 5)) (cCons (cK (.int 4)) (cNil))))))) (cOr (cTru (cCall 3 c_can_be (cCons (cK (.int 3)) (cCons (cK (.int 4)) (cCons (cK (.int 2)) (cNil)))))) (cTest (cOp (gD dNotB) (cCall 3 c_can_be (cCons (cK (.int 3)) (cCons (cK (.int 4)) (cCons (cK (.int 3)) (cNil))))) (cK (.bool true)))))) (sRet (cK (.bool false))) (sNil)
def z9 : CS := sIf (cOr (cTest (cOp (gD dNe) (cCall 1 c_spanned (cCons (cVar 3) (cNil))) (cAp gTup (cCons (cAp gTup (cNil)) (cCons (cAp gTup (cCons (cK (.int 0)) (cNil))) (cCons (cAp gTup (cCons (cK (.int 0)) (cCons (cK (.int 1)) (cNil)))) (cCons (cAp gTup (cCons (cK (.int 1)) (cNil))) (cNil)))))))) (cOr (cTest (cOp (gD dNe) (cCall 1 c_rank (cCons (cVar 3) (cNil))) (cK (.int 2)))) (cTest (cOp (gD dNe) (cCall 3 c_best_chance (cCons (cVar 2) (cCons (cK (.int 2)) (cCons (cK (.int 9)) (cNil))))) (cAp gTup (cCons (cK (.int 1)) (cCons (cK (.int 1)) (cNil)))))))) (sRet (cK (.bool false))) (sNil)
def z10 : CS := sIf (cOr (cTest (cOp (gD dNe) (cCall 2 c_idle_chance (cCons (cVar 2) (cCons (cK (.int 1)) (cNil)))) (cAp gTup (cCons (cK (.int 1)) (cCons (cK (.int 1)) (cNil)))))) (cOr (cTest (cOp (gD dNe) (cCall 2 c_idle_chance (cCons (cVar 2) (cCons (cK (.int 2)) (cNil)))) (cAp gTup (cCons (cK (.int 0)) (cCons (cK (.int 1)) (cNil)))))) (cTest (cOp (gD dNe) (cCall 2 c_idle_chance (cCons (cVar 3) (cCons (cK (.int 1)) (cNil)))) (cAp gTup (cCons (cK (.int 1)) (cCons (cK (.int 3)) (cNil)))))))) (sRet (cK (.bool false))) (sNil)
def z11 : CS := sAsg (gN 5) (cAp gTup (cCons (cAp gTup (cCons (cK (.int 0)) (cCons (cAp gTup (cCons (cK (.int 1)) (cCons (cK (.int 2)) (cNil)))) (cNil)))) (cCons (cAp gTup (cCons (cK (.int 1)) (cCons (cAp gTup (cNil)) (cNil)))) (cNil))))
def z12 : CS := sIf (cOr (cTest (cOp (gD dNe) (cCall 3 c_after (cCons (cVar 2) (cCons (cK (.int 2)) (cCons (cVar 5) (cNil))))) (cAp gTup (cCons (cK (.int 2)) (cCons (cAp gTup (cCons (cAp gTup (cCons (cK (.int 0)) (cNil))) (cCons (cAp gTup (cNil)) (cCons (cAp gTup (cCons (cK (.int 0)) (cCons (cK (.int 1)) (cNil)))) (cNil))))) (cNil)))))) (cTest (cIsN false (cCall 3 c_lost_on (cCons (cVar 2) (cCons (cK (.int 2)) (cCons (cVar 5) (cNil)))))))) (sRet (cK (.bool false))) (sNil)
def z13 : CS := sAsg (gN 6) (cAp gTup (cCons (cK (.int 2)) (cCons (cOp (gD dRepT) (cAp gTup (cCons (cOp gIx (cOp gIx (cVar 2) (cK (.int 1))) (cCall 2 c__law_taken (cCons (cVar 1) (cCons (cK (.int 3)) (cNil))))) (cNil))) (cK (.int 3))) (cNil))))
def z14 : CS := sIf (cOr (cTru (cCall 1 c_keeps (cCons (cVar 6) (cNil)))) (cOr (cTest (cOp (gD dNe) (cCall 2 c_lost_within (cCons (cVar 6) (cCons (cK (.int 3)) (cNil)))) (cK (.int 0)))) (cTest (cOp (gD dNe) (cCall 2 c_downfall (cCons (cVar 6) (cCons (cK (.int 1)) (cNil)))) (cAp gTup (cNil)))))) (sRet (cK (.bool false))) (sNil)
def z15 : CS := sRet (cAndV (cOp (gD dEq) (cCall 3 c_lost_on (cCons (cVar 2) (cCons (cK (.int 2)) (cCons (cOp (gDM dAdd) (cVar 5) (cAp gTup (cCons (cAp gTup (cCons (cK (.int 0)) (cCons (cAp gTup (cNil)) (cNil)))) (cNil)))) (cNil))))) (cK (.int 2))) (cOp (gD dEq) (cCall 3 c_count_schemes (cCons (cK (.int 2)) (cCons (cK (.int 3)) (cCons (cK (.int 2)) (cNil))))) (cK (.int 1))))
theorem law_seq : c_law = cDef 8 (sSeq z0 (sSeq z1 (sSeq z2 (sSeq z3 (sSeq z4 (sSeq z5 (sSeq z6 (sSeq z7 (sSeq z8 (sSeq z9 (sSeq z10 (sSeq z11 (sSeq z12 (sSeq z13 (sSeq z14 (z15)))))))))))))))) := rfl
def ti (l : List Int) : PyData := .tuple (l.map .int)
def ringD : PyData := .tuple [.int 2, .tuple [ti [0], ti [1], ti [0, 1]]]
def bareD : PyData := .tuple [.int 2, .tuple [ti [0], ti [1], ti []]]
def twiceD : PyData := .tuple [.int 1, .tuple [ti [0], ti [0]]]
def daysD : PyData := .tuple [.tuple [.int 0, ti [1, 2]], .tuple [.int 1, ti []]]
def tabD : Nat → PyData
  | 0 => ti [0]
  | 1 => ti [1]
  | _ => ti [0, 1]
def otherD (v : Nat) : PyData := .tuple [.int 2, .tuple [tabD v, tabD v, tabD v]]
abbrev t0 (ns : List Int) : SA := [some (.fl (ns.map .int)), none, none, none, none, none, none, none]
abbrev t1 (ns : List Int) : SA := [some (.fl (ns.map .int)), some (.ref 0), none, none, none, none, none, none]
abbrev t2 (ns : List Int) : SA := [some (.fl (ns.map .int)), some (.ref 0), some (.d ringD), some (.d bareD), none, none, none, none]
abbrev t3 (ns : List Int) : SA := [some (.fl (ns.map .int)), some (.ref 0), some (.d ringD), some (.d bareD), some (.d twiceD), none, none, none]
abbrev t4 (ns : List Int) : SA := [some (.fl (ns.map .int)), some (.ref 0), some (.d ringD), some (.d bareD), some (.d twiceD), some (.d daysD), none, none]
abbrev t5 (ns : List Int) (v : Nat) : SA := [some (.fl (ns.map .int)), some (.ref 0), some (.d ringD), some (.d bareD), some (.d twiceD), some (.d daysD), some (.d (otherD v)), none]
abbrev h0 (ns : List Int) : AH := [R ns 0 808 0]
set_option maxHeartbeats 0 in
theorem e0 (ns : List Int) : z0 (t0 ns) [] = some (.nx (t1 ns), h0 ns) := by kernel_rfl
set_option maxHeartbeats 0 in
theorem e1 (ns : List Int) : z1 (t1 ns) (h0 ns) = some (.nx (t2 ns), h0 ns) := by kernel_rfl
set_option maxHeartbeats 0 in
theorem e2 (ns : List Int) : z2 (t2 ns) (h0 ns) = some (.nx (t2 ns), h0 ns) := by kernel_rfl
set_option maxHeartbeats 0 in
theorem e3 (ns : List Int) : z3 (t2 ns) (h0 ns) = some (.nx (t2 ns), h0 ns) := by kernel_rfl
set_option maxHeartbeats 0 in
theorem e4 (ns : List Int) : z4 (t2 ns) (h0 ns) = some (.nx (t2 ns), h0 ns) := by kernel_rfl
set_option maxHeartbeats 0 in
theorem e5 (ns : List Int) : z5 (t2 ns) (h0 ns) = some (.nx (t2 ns), h0 ns) := by kernel_rfl
theorem e6 (ns : List Int) : z6 (t2 ns) (h0 ns) = some (.nx (t3 ns), h0 ns) := by kernel_rfl
set_option maxHeartbeats 0 in
theorem e7 (ns : List Int) : z7 (t3 ns) (h0 ns) = some (.nx (t3 ns), h0 ns) := by kernel_rfl
set_option maxHeartbeats 0 in
theorem e8 (ns : List Int) : z8 (t3 ns) (h0 ns) = some (.nx (t3 ns), h0 ns) := by kernel_rfl
set_option maxHeartbeats 0 in
theorem e9 (ns : List Int) : z9 (t3 ns) (h0 ns) = some (.nx (t3 ns), h0 ns) := by kernel_rfl
set_option maxHeartbeats 0 in
theorem e10 (ns : List Int) : z10 (t3 ns) (h0 ns) = some (.nx (t3 ns), h0 ns) := by kernel_rfl
theorem e11 (ns : List Int) : z11 (t3 ns) (h0 ns) = some (.nx (t4 ns), h0 ns) := by kernel_rfl
set_option maxHeartbeats 0 in
theorem e12 (ns : List Int) : z12 (t4 ns) (h0 ns) = some (.nx (t4 ns), h0 ns) := by kernel_rfl
end MK
namespace MK
open PySem PySem.Spec PyProof.Rows L2 MV
theorem e13 (ns : List Int) : ∃ (i s r : Int) (v : Nat), v < 3 ∧ z13 (t4 ns) (h0 ns) = some (.nx (t5 ns v), [R ns i s r]) := by
  obtain ⟨i, s, r, v, e, _, h1, h2⟩ := taken_ev (ns := ns) (i := 0) (s := 808) (r := 0) (many := 3) (rest := []) (by decide) (by decide) (by decide)
  refine ⟨i, s, r, v.toNat, by omega, ?_⟩
  have hv : v = 0 ∨ v = 1 ∨ v = 2 := by omega
  have one : ∀ (u : Nat), v = (u : Int) → (c__law_taken [.ref 0, .d (.int 3)] (h0 ns) = some (.ok (.d (.int (u : Nat))), [R ns i s r])) := fun u hu => by rw [← hu]; exact e
  have go : ∀ (u : Nat), u < 3 → c__law_taken [.ref 0, .d (.int 3)] (h0 ns) = some (.ok (.d (.int (u : Nat))), [R ns i s r]) → z13 (t4 ns) (h0 ns) = some (.nx (t5 ns u), [R ns i s r]) := by
    intro u hu eu
    have c1 : cCall 2 c__law_taken (cCons (cVar 1) (cCons (cK (.int 3)) (cNil))) (t4 ns) (h0 ns) = some (.ok (.d (.int (u : Nat))), [R ns i s r]) := call_ok (cons_ok (var_ok rfl) (one_ok k_ok)) rfl eu
    have c2 : cOp gIx (cOp gIx (cVar 2) (cK (.int 1))) (cCall 2 c__law_taken (cCons (cVar 1) (cCons (cK (.int 3)) (cNil)))) (t4 ns) (h0 ns) = some (.ok (.d (tabD u)), [R ns i s r]) := by
      refine op_ok (x := .d (.tuple [ti [0], ti [1], ti [0, 1]])) (by kernel_rfl) c1 ?_
      match u, hu with
      | 0, _ => kernel_rfl
      | 1, _ => kernel_rfl
      | 2, _ => kernel_rfl
    unfold z13
    refine (asg_n (x := .d (otherD u)) (h' := [R ns i s r]) ?_).trans (by rfl)
    refine ap_ok (h1 := [R ns i s r]) (cons_ok k_ok (one_ok (op_ok (x := .d (.tuple [tabD u])) (h1 := [R ns i s r]) (ap_ok (one_ok c2) (by kernel_rfl)) k_ok (v := .d (.tuple [tabD u, tabD u, tabD u])) ?_))) ?_
    · kernel_rfl
    · kernel_rfl
  exact go v.toNat (by omega) (one v.toNat (by omega))
set_option maxHeartbeats 0 in
theorem e14_0 (ns : List Int) (h : AH) : z14 (t5 ns 0) h = some (.nx (t5 ns 0), h) := by kernel_rfl
set_option maxHeartbeats 0 in
theorem e14_1 (ns : List Int) (h : AH) : z14 (t5 ns 1) h = some (.nx (t5 ns 1), h) := by kernel_rfl
set_option maxHeartbeats 0 in
theorem e14_2 (ns : List Int) (h : AH) : z14 (t5 ns 2) h = some (.nx (t5 ns 2), h) := by kernel_rfl
set_option maxHeartbeats 0 in
theorem e15 (ns : List Int) (v : Nat) (h : AH) : z15 (t5 ns v) h = some (.rt (.d (.bool true)), h) := by kernel_rfl
theorem math (ns : List Int) : ∃ h', c_law [.fl (ns.map .int)] [] = some (.ok (.d (.bool true)), h') := by
  obtain ⟨i, s, r, v, hv, e⟩ := e13 ns
  have e14 : z14 (t5 ns v) [R ns i s r] = some (.nx (t5 ns v), [R ns i s r]) := by
    match v, hv with
    | 0, _ => exact e14_0 ns _
    | 1, _ => exact e14_1 ns _
    | 2, _ => exact e14_2 ns _
  rw [law_seq]
  exact ⟨_, cDef_rt (seq_nx (e0 ns) (seq_nx (e1 ns) (seq_nx (e2 ns) (seq_nx (e3 ns) (seq_nx (e4 ns) (seq_nx (e5 ns) (seq_nx (e6 ns) (seq_nx (e7 ns) (seq_nx (e8 ns) (seq_nx (e9 ns) (seq_nx (e10 ns) (seq_nx (e11 ns) (seq_nx (e12 ns) (seq_nx e (seq_nx e14 (e15 ns v _))))))))))))))))⟩
end MK
theorem PySem.Challenge.cw_meltlibrary_k08_known_libraries_holds : PySem.Challenge.rw_meltlibrary_k08_known_libraries.Holds :=
  MK.E.holds_of fun ns _ => MK.math ns
