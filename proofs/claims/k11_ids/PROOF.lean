import PyProof.Rows.All
import Wide.All
import OpenK.AllK
import Wide.FinOn
import Lean
import PyProof.EqAt
import PyProof.EqKinds
import PyProof.TupleCall
import PyProof.Rows.SeqMore
import PyProof.MeetsStr2
import PyProof.CompUse
import PyProof.ListTruth
import PyProof.ZipIter
import PyProof.EnumIter
import KE.KRevSl
import PyProof.AutoSeq1
import KE.KDictOf
import PyProof.EnumFor
import PyProof.EnumMake
import PyProof.TupleKey
import PyProof.DictRoadsH
import PyProof.DictIter
import PyProof.DictWalks
import PyProof.NeKinds
import PyProof.Rows.SetFrom
import PyProof.CollectIter
import KE.KSortTup
import PyProof.Rows.SortStr
import PyProof.Rows.StrInSeq
import PyProof.Rows.SortShell
import PyProof.Rows.SortWalk
import KE.KEqDict
import PySem.Challenge.RW_turnsame_k11_ids
noncomputable section
abbrev Fg := PySem.W.Frag
abbrev VSP := PySem.Value → PySem.Shared → Prop
abbrev AOs := List (PySem.Addr × PySem.Obj)
abbrev SOV := PySem.Str → Option PySem.Value
abbrev PDs := List PySem.PyData
abbrev wB := @PySem.wpAny_bind
abbrev wP := @PySem.wpAny_pure
abbrev hpS := @PySem.Heap.get?_push_of_some
theorem lMp {α β:Type} {f:α→β} {l:List α}:(l.map f).length=l.length:=List.length_map ..
theorem gES {α:Type} {l:List α} {i:Nat} {a:α}:l[i]?=some a↔∃ h:i<l.length,l[i]=a:=List.getElem?_eq_some_iff
theorem gEE {α:Type} {l:List α} {i:Nat} (h:i<l.length):l[i]?=some l[i]:=List.getElem?_eq_getElem h
theorem gEM {α β:Type} {f:α→β} {l:List α} {i:Nat}:(l.map f)[i]?=Option.map f l[i]?:=List.getElem?_map ..
theorem mGE {α:Type} {l:List α} {i:Nat} {a:α} (h:l[i]?=some a):a∈l:=List.mem_of_getElem? h
theorem mCS {α:Type} {a:α} {l:List α}:a∈a::l:=List.mem_cons_self
theorem mCM {α:Type} (y:α) {a:α} {l:List α} (h:a∈l):a∈y::l:=List.mem_cons_of_mem y h
theorem mAp {α:Type} {a:α} {s t:List α}:a∈s++t↔a∈s∨a∈t:=List.mem_append
theorem mSg {α:Type} {a b:α}:a∈[b]↔a=b:=List.mem_singleton
theorem oMS {α β:Type} {f:α→β} {x:Option α} {b:β}:x.map f=some b↔∃ a,x=some a∧f a=b:=Option.map_eq_some_iff
theorem nMN {α:Type} {a:α}:a∉([]:List α):=List.not_mem_nil
theorem tAO {α:Type} {l:List α} {i:Nat}:l.take (i+1)=l.take i++l[i]?.toList:=List.take_add_one
theorem lAp {α:Type} {l m:List α}:(l++m).length=l.length+m.length:=List.length_append ..
theorem lTk {α:Type} {i:Nat} {l:List α}:(l.take i).length=min i l.length:=List.length_take ..
set_option compiler.extract_closed false
set_option Elab.async false
set_option linter.all false
set_option maxRecDepth 100000
namespace L2
open PySem PySem.Spec PyProof.Rows
theorem _root_.f9:0≤PySem.sizeLine:=by decide
theorem _root_.eC:1≤PySem.sizeLine:=by decide
theorem _root_.gl:2≤PySem.sizeLine:=by decide
theorem _root_.eB:3≤PySem.sizeLine:=by decide
theorem _root_.Cr:4≤PySem.sizeLine:=by decide
theorem _root_.AV:5≤PySem.sizeLine:=by decide
theorem _root_.Dg:6≤PySem.sizeLine:=by decide
theorem _root_.AJ:7≤PySem.sizeLine:=by decide
theorem _root_.Df:8≤PySem.sizeLine:=by decide
def cA (s:Stmt):Arguments:=match s with
  | .FunctionDef _ a _ _ _ _ _ _ _ _=>a
  | _=>{posonlyargs:=[],args:=[],vararg:=none,kwonlyargs:=[],kw_defaults:=[],kwarg:=none,defaults:=[]}
def aQ (s:Stmt):List Stmt:=match s with
  | .FunctionDef _ _ b _ _ _ _ _ _ _=>b
  | _=>[]
def a9 (s:Stmt):Scope:=match s with
  | .FunctionDef _ _ _ _ _ _ sc _ _ _=>sc
  | _=>{kind:=.function,names:=[],isGenerator:=false,isCoroutine:=false}
end L2
namespace K11
open PySem L2
def top (i:Nat):Stmt:=PySem.Challenge.pw_turnsame_k11_ids.main.body.getD i (.Pass ⟨0,0,0,0⟩)
def FT (l:List Value):Obj:={cls:=.type "tuple",data:=.seq l.toArray}
def FC (l:List Value):Obj:={cls:=.type "code",data:=.fields l.toArray}
def Fe (x:Str) (t:Nat) (v:Value):Str×Nat×Value:=(x,t,v)
def FD (P:Params) (l:List (Str×Nat×Value)) (ep:Nat):Obj:={cls:=.type "dict",data:=.dict (l.map fun x=>(⟨PyData.keyHash P x.1,.str x.1 x.2.1,x.2.2⟩:DictEntry)).toArray ep}
abbrev Row:=Str×Nat×Addr×List (Str×Nat)
def vw (e:Row):Str×Nat×Value:=Fe e.1 e.2.1 (.ref e.2.2.1)
def M0:Value:=.str "turnsame.cores" 256
def M1:Value:=.str "law_turnsame_k11_ids" 371
def FF (x:Str) (i:Nat) (m:Value) (c:Nat):Obj:={cls:=.type "function",data:=.func {name:=x,qualname:=x,params:=cA (top i),body:=.stmts (aQ (top i)),scope:=a9 (top i),globals:=3,closure:=[],defaults:=.none,kwdefaults:=.none,pyModule:=m,code:=.ref c}}
def FR (x:Str) (i:Nat) (m:Value) (t l g a e:Nat) (b:Bool):Fg :=
  [(a+(if b=true then 5 else 3),FC ([.str x t,.str x (t+1),.str "/claim/cut.py" (t+2),.int l 0,.int g 0,.int 0 0,.int 0 0,.int 3 0,.ref a,.bool true,.int 181 0,.ref (a+1),.none]++(if b=true then [.ref (a+2),.ref (a+3),.ref (a+4)] else [.none,.none,.ref (a+2)])++[.int e 0,.int l 0,.str "/claim/cut.py" (e+1)])),
   (a+(if b=true then 6 else 4),FF x i m (a+(if b=true then 5 else 3)))]
def SL:List Row:=[("number",187,16,[("number",188)]),("name",190,17,[("meant",191)]),("let",193,18,[("bound",194),("one",195),("one",196)]),("var",198,19,[("bound",199),("one",200),("one",201)]),("set",203,20,[("meant",204),("one",205)]),("do",207,21,[("many",208)]),("if",210,22,[("one",211),("one",212),("one",213)]),("while",215,23,[("one",216),("one",217)]),("each",219,24,[("bound",220),("one",221),("one",222)]),("say",224,25,[("one",225)]),("fault",227,26,[("word",228)]),("op",230,27,[("op",231),("many",232)]),("new",234,28,[("place",235),("many",236)]),("get",238,29,[("place",239),("place",240),("one",241)]),("fun",243,30,[("bounds",244),("one",245)]),("apply",247,31,[("one",248),("many",249)]),("call",251,32,[("place",252),("many",253)])]
def KF:Params→Fg:=fun P=>[(3,FD P [Fe "__name__" 165 (.str "law_turnsame_k11_ids" 371),Fe "__doc__" 166 (.none),Fe "__package__" 167 (.none),Fe "__loader__" 168 (.builtin "__main__.__loader__#opaque"),Fe "__spec__" 169 (.none),Fe "__annotations__" 170 (.ref 6),Fe "__builtins__" 171 (.ref 4),Fe "__file__" 173 (.str "/claim/cut.py" 172),Fe "__cached__" 174 (.none),Fe "SLOTS" 255 (.ref 15),Fe "children_of" 267 (.ref 39),Fe "with_children" 279 (.ref 46),Fe "bound_by" 286 (.ref 53),Fe "meant_by" 293 (.ref 60),Fe "with_ids" 305 (.ref 67),Fe "walked" 315 (.ref 74),Fe "taken_off" 324 (.ref 81),Fe "rebuilt" 333 (.ref 88),Fe "scoped_children" 339 (.ref 93),Fe "with_entries" 351 (.ref 100),Fe "free_ids" 364 (.ref 107),Fe "turned_ids" 370 (.ref 112),Fe "_law_draw" 385 (.ref 119),Fe "_law_pick" 393 (.ref 126),Fe "_law_name" 401 (.ref 133),Fe "_law_unlike" 413 (.ref 140),Fe "_law_form" 419 (.ref 145),Fe "_law_heads" 428 (.ref 152),Fe "_law_meant" 434 (.ref 157),Fe "_law_choices" 445 (.ref 164),Fe "_law_lay" 455 (.ref 171),Fe "_law_tell" 464 (.ref 178),Fe "_law_seen" 470 (.ref 183),Fe "_law_bind" 480 (.ref 190),Fe "_law_expr" 486 (.ref 195),Fe "_law_number" 494 (.ref 202),Fe "_law_inner" 507 (.ref 209),Fe "_law_some" 521 (.ref 216),Fe "_law_bound" 535 (.ref 223),Fe "_law_named" 552 (.ref 230),Fe "_law_record" 566 (.ref 237),Fe "_law_plain" 581 (.ref 244),Fe "_law_fun" 587 (.ref 249),Fe "_law_fill" 593 (.ref 254),Fe "_law_made" 599 (.ref 259),Fe "_law_bound_ids" 606 (.ref 266),Fe "_law_parts" 615 (.ref 273),Fe "_law_free" 621 (.ref 278),Fe "_law_turned" 627 (.ref 283),Fe "law" 642 (.ref 290)] 50),(15,FD P (SL.map vw) 17)]++SL.map (fun e=>(e.2.2.1,FT (e.2.2.2.map fun s=>.str s.1 s.2)))++(
  FR "children_of" 2 M0 258 3 1 33 265 true ++
  FR "with_children" 3 M0 268 11 2 40 277 true ++
  FR "bound_by" 4 M0 280 24 1 47 284 true ++
  FR "meant_by" 5 M0 287 28 1 54 291 true ++
  FR "with_ids" 6 M0 294 30 3 61 303 true ++
  FR "walked" 7 M0 306 42 1 68 313 true ++
  FR "taken_off" 8 M0 316 50 2 75 322 true ++
  FR "rebuilt" 9 M0 325 54 1 82 331 true ++
  FR "scoped_children" 10 M0 334 59 3 89 337 false ++
  FR "with_entries" 11 M0 340 63 3 94 349 true ++
  FR "free_ids" 12 M0 352 70 1 101 362 true ++
  FR "turned_ids" 13 M0 365 81 2 108 368 false ++
  FR "_law_draw" 15 M1 373 88 3 113 383 true ++
  FR "_law_pick" 16 M1 386 98 2 120 391 true ++
  FR "_law_name" 17 M1 394 101 1 127 399 true ++
  FR "_law_unlike" 18 M1 402 104 3 134 411 true ++
  FR "_law_form" 19 M1 414 111 3 141 417 false ++
  FR "_law_heads" 20 M1 420 126 1 146 426 true ++
  FR "_law_meant" 21 M1 429 130 4 153 432 false ++
  FR "_law_choices" 22 M1 435 134 2 158 443 true ++
  FR "_law_lay" 23 M1 446 144 2 165 453 true ++
  FR "_law_tell" 24 M1 456 149 3 172 462 true ++
  FR "_law_seen" 25 M1 465 151 3 179 468 false ++
  FR "_law_bind" 26 M1 471 159 3 184 478 true ++
  FR "_law_expr" 27 M1 481 164 4 191 484 false ++
  FR "_law_number" 28 M1 487 173 1 196 492 true ++
  FR "_law_inner" 29 M1 495 177 4 203 505 true ++
  FR "_law_some" 30 M1 508 196 6 210 519 true ++
  FR "_law_bound" 31 M1 522 201 4 217 533 true ++
  FR "_law_named" 32 M1 536 209 5 224 550 true ++
  FR "_law_record" 33 M1 553 228 4 231 564 true ++
  FR "_law_plain" 34 M1 567 241 5 238 579 true ++
  FR "_law_fun" 35 M1 582 253 5 245 585 false ++
  FR "_law_fill" 36 M1 588 267 2 250 591 false ++
  FR "_law_made" 37 M1 594 289 1 255 597 false ++
  FR "_law_bound_ids" 38 M1 600 306 1 260 604 true ++
  FR "_law_parts" 39 M1 607 312 1 267 613 true ++
  FR "_law_free" 40 M1 616 320 2 274 619 false ++
  FR "_law_turned" 41 M1 622 331 2 279 625 false ++
  FR "law" 42 M1 628 340 1 284 640 true)
def KA:List Addr:=[3,15,16,17,18,19,20,21,22,23,24,25,26,27,28,29,30,31,32,38,39,45,46,52,53,59,60,66,67,73,74,80,81,87,88,92,93,99,100,106,107,111,112,118,119,125,126,132,133,139,140,144,145,151,152,156,157,163,164,170,171,177,178,182,183,189,190,194,195,201,202,208,209,215,216,222,223,229,230,236,237,243,244,248,249,253,254,258,259,265,266,272,273,277,278,282,283,289,290]
def QV:Program:=PySem.W.view PySem.Challenge.pw_turnsame_k11_ids [2,3,4,5,6,7,8,9,10,11,12,13,15,16,17,18,19,20,21,22,23,24,25,26,27,28,29,30,31,32,33,34,35,36,37,38,39,40,41,42]
def HK:PySem.W.Hook:=PySem.W.kHook KF KA (fun _=>by kernel_rfl)
end K11
section
open PySem PySem.W PyProof.Rows
set_option maxRecDepth 100000 in
set_option maxHeartbeats 0 in
theorem K11.preH (hc:∀ d:DefRec,d.name=Str.ofString "law"→d.params.defaults=[]→WalkO K11.QV [Str.ofString "SLOTS"] (XL K11.QV []) (Hook.says K11.HK) (OpenRow.toRowW (OpenLaw.row PySem.Challenge.rw_turnsame_k11_ids)) d [] (fun f vs=>PySem.call f vs)):PySem.Challenge.rw_turnsame_k11_ids.Holds:=by
 w_on;o_law
 refine holds_open (q:=K11.QV) (loose:=[Str.ofString "SLOTS"]) (Xt:=fun s=>xlAt K11.QV [] s&&recOk (RowW.records (OpenRow.toRowW (OpenLaw.row PySem.Challenge.rw_turnsame_k11_ids))) s) (XP:=XL K11.QV []) (Yf:=Hook.obs K11.HK) (Ya:=Hook.val K11.HK) (YP:=Hook.says K11.HK) (N:=3278) ?hl (Hook.of K11.HK) (Hook.keeps K11.HK) (fun s e=>xl_of s (Bool.and_eq_true_iff.mp e).1) XL.keeps (by rfl) (by rfl) (by rfl) (fun s e=>recFacts_of (Bool.and_eq_true_iff.mp e).2) (by rfl) (by first | assumption | decide +kernel) (by decide +kernel) ⟨rfl,rfl,rfl,rfl,rfl,by decide +kernel⟩ ?hw ?hc
 case hl=>exact LeftO.of_split "special-get-raises" (fun w=>by kernel_rfl)
 case hw=>w_witness2
 exact hc _ rfl rfl
end
namespace L2
open PySem PySem.Spec PyProof.Rows
abbrev Key:=Sum Int Str
def iS:Key→Value→Bool
  | .inl k,v=>Value.isInt k v
  | .inr x,v=>Value.isStrOf x v
def BH (w:World):Key→Int
  | .inl k=>hashInt k
  | .inr x=>hashStr w x
theorem bu:∀ {k:Key} {v:Value},iS k v=true→(∃ i t,k=Sum.inl i∧v=Value.int i t)∨(∃ x t,k=Sum.inr x∧v=Value.str x t)
 | .inl i,v,h=>by
  obtain⟨t,e⟩:=Value.isInt_shape (k:=i) (v:=v) h;exact .inl ⟨i,t,rfl,e⟩
 | .inr x,v,h=>by
  obtain⟨t,e⟩:=Value.isStrOf_shape (x:=x) (v:=v) h;exact .inr ⟨x,t,rfl,e⟩
theorem nX (i:Int) (t:Tok):iS (.inl i) (.int i t)=true:=by simp[iS,Value.isInt]
theorem nW (x:Str) (t:Tok):iS (.inr x) (.str x t)=true:=by simp[iS,Value.isStrOf]
theorem vW (a b:Int):decide ((Sum.inl a:Key)=Sum.inl b)=(a==b):=by
 by_cases e:a=b
 · subst e;simp
 · have h:¬ (Sum.inl a:Key)=Sum.inl b:=fun q=>e (Sum.inl.inj q);rw[decide_eq_false h];exact (beq_eq_false_iff_ne.mpr e).symm
theorem vT (a b:Str):decide ((Sum.inr a:Key)=Sum.inr b)=decide (a=b):=by
 by_cases e:a=b
 · subst e;simp
 · have h:¬ (Sum.inr a:Key)=Sum.inr b:=fun q=>e (Sum.inr.inj q);rw[decide_eq_false h,decide_eq_false e]
theorem vV (a:Int) (b:Str):decide ((Sum.inl a:Key)=Sum.inr b)=false:=decide_eq_false (fun q=>nomatch q)
theorem vU (a:Str) (b:Int):decide ((Sum.inr a:Key)=Sum.inl b)=false:=decide_eq_false (fun q=>nomatch q)
def aw (prog:Program) (w:World):PySem.KeyKind prog w Key where
  is:=iS
  hash:=BH w
  inj:=fun v a b ha hb=>by
    rcases bu ha with ⟨i,t,rfl,rfl⟩ | ⟨x,t,rfl,rfl⟩
    · rcases bu hb with ⟨j,u,rfl,e⟩ | ⟨y,u,rfl,e⟩
      · injection e with e1 _;rw[e1]
      · exact nomatch e
    · rcases bu hb with ⟨j,u,rfl,e⟩ | ⟨y,u,rfl,e⟩
      · exact nomatch e
      · injection e with e1 _;rw[e1]
  byValue:=fun k v h=>by
    rcases bu h with ⟨i,t,rfl,rfl⟩ | ⟨x,t,rfl,rfl⟩ <;> rfl
  pyHash:=fun hv h=>by
    rcases bu hv with ⟨i,t,rfl,rfl⟩ | ⟨x,t,rfl,rfl⟩
    · exact wpAny_pyHash_int h
    · exact wpAny_pyHash_str h
  eqBool:=fun hu hv h=>by
    rcases bu hu with ⟨i,t,rfl,rfl⟩ | ⟨x,t,rfl,rfl⟩
    · rcases bu hv with ⟨j,u,rfl,rfl⟩ | ⟨y,u,rfl,rfl⟩
      · rw[vW] at h;exact wpAny_eqBool_int h
      · rw[vV] at h;exact SeqAt.EqAt.int_str i t y u _ _ _ _ h
    · rcases bu hv with ⟨j,u,rfl,rfl⟩ | ⟨y,u,rfl,rfl⟩
      · rw[vU] at h;exact SeqAt.EqAt.str_int x t j u _ _ _ _ h
      · rw[vT] at h;exact wpAny_eqBool_str h
  «strs»:=fun k x t v h=>by
    rcases bu h with ⟨i,u,rfl,e⟩ | ⟨y,u,rfl,e⟩
    · exact nomatch e
    · injection e with e1 _
      subst e1;cases v <;> rfl
theorem kI (prog:Program) (w:World) (i:Int) (t:Tok):(aw prog w).is (.inl i) (.int i t)=true:=nX i t
theorem dR (prog:Program) (w:World) (x:Str) (t:Tok):(aw prog w).is (.inr x) (.str x t)=true:=nW x t
inductive V where
  | non | bl (b:Bool) | int (i:Int) | str (x:Str) | byt (b:Array UInt8) | flt (b:UInt64) | ref (a:Addr) | ty (n:String)
  deriving DecidableEq
def aM:V→Value→Prop
  | .non,u=>u=Value.none
  | .bl b,u=>u=Value.bool b
  | .int i,u=>∃ t,u=Value.int i t
  | .str x,u=>∃ t,u=Value.str x t
  | .byt b,u=>∃ t,u=Value.bytes b t
  | .flt b,u=>∃ t,u=Value.float b t
  | .ref a,u=>u=Value.ref a
  | .ty n,u=>u=Value.type n
abbrev aO:List V→List Value→Prop:=Paired aM
theorem aO.length {xs:List V} {us:List Value} (r:aO xs us):xs.length=us.length:=Paired.length r
theorem aO.get:∀ {xs:List V} {us:List Value} {i:Nat} {x:V},aO xs us→xs[i]?=some x→∃ u,us[i]?=some u∧aM x u:=by
 intro xs us i x h
 induction h generalizing i with
 | nil=>intro e;simp at e
 | cons r t ih =>
  intro e;cases i with
  | zero=>cases e;exact⟨_,rfl,r⟩
  | succ i=>exact ih e
theorem aO.append:∀ {xs ys:List V} {us ws:List Value},aO xs us→aO ys ws→aO (xs++ys) (us++ws):=by
 intro xs ys us ws h z
 induction h with
 | nil=>exact z
 | cons r t ih=>exact .cons r ih
theorem aO.take:∀ {xs:List V} {us:List Value} (n:Nat),aO xs us→aO (xs.take n) (us.take n)
 | _,_,0,_=>.nil
 | _,_,_+1,.nil=>.nil
 | _,_,n+1,.cons r t=>.cons r (aO.take n t)
theorem aO.drop:∀ {xs:List V} {us:List Value} (n:Nat),aO xs us→aO (xs.drop n) (us.drop n)
 | _,_,0,r=>r
 | _,_,_+1,.nil=>.nil
 | _,_,n+1,.cons _ t=>aO.drop n t
def fN:Option V→Option Value→Prop
  | some v,some u=>aM v u
  | none,none=>True
  | _,_=>False
def KV {κ:Type}:List (κ×V)→List (κ×Value)→Prop:=Paired fun (p:κ×V) (q:κ×Value)=>p.1=q.1∧aM p.2 q.2
def kV:Key→V
  | .inl i=>.int i
  | .inr x=>.str x
inductive HO where
    | lst (xs:List V)
    | tup (xs:List V)
    | dK (kvs:List (Key×V)) | dT (kvs:List (List Key×V))
    | set (S:Int→Bool) (n:Nat)
    | ins (C dx:Addr) (fs:List (Str×V))
    | own (x:Addr)
    | xd (fs:List (Str×V))
    | met (f x:Addr)
    | rng (lo hi:Int)
    | frz (o:Obj) (u:HO)
    | tbl (ps:Array Value)
    | ext (φ:Heap→Prop)
abbrev Hp:=Addr→Option HO
def upd (H:Hp) (a:Addr) (o:HO):Hp:=fun b=>if b=a then some o else H b
theorem pG {H:Hp} {a:Addr} {o:HO}:upd H a o a=some o:=by unfold upd;rw[if_pos rfl]
theorem aa {H:Hp} {a b:Addr} {o:HO} (h:b≠a):upd H a o b=H b:=by unfold upd;rw[if_neg h]
theorem ma {H:Hp} {a:Addr} {o u:HO}:upd (upd H a o) a u=upd H a u:=by
 funext b;unfold upd;split <;> rfl
theorem zE {H:Hp} {a b:Addr} {o u:HO} (h:H a=some o) (h':H b=some u) (d:o≠u):a≠b:=by
 intro e;subst e;rw[h] at h';exact d (Option.some.inj h')
theorem bF {H:Hp} {a b:Addr} {o:HO} (h:H a=some o) (h':H b=none):a≠b:=by
 intro e;subst e;rw[h] at h';cases h'
section
variable (P:Program) (w:World)
def bb (H:Hp) (h:Heap) (a:Addr):HO→Prop
  | .lst xs=>xs.length≤sizeLine∧∃ (its:List Value) (n:Nat),aO xs its∧h.get? a=some {cls:=.type "list",data:=.seq its.toArray n}
  | .tup xs=>xs.length≤sizeLine∧∃ its:List Value,aO xs its∧IsTup h a its.toArray
  | .dK kvs=>kvs.length≤sizeLine∧(a==sysModules)=false∧∃ vs,KV kvs vs∧h.DictOf (aw P w) a vs
  | .dT kvs=>kvs.length≤sizeLine∧(a==sysModules)=false∧∃ xs:List (List Key×Addr×Value),
      Paired (fun (p:List Key×V) (q:List Key×Addr×Value)=>p.1=q.1∧H q.2.1=some (.tup (p.1.map kV))∧aM p.2 q.2.2) kvs xs ∧
      ∃ o es ep,h.get? a=some o∧o.ExactDict∧o.data=.dict es ep∧es.toList=xs.map (entryOfKey (tupleKind (aw P w)))∧(xs.map (·.1)).Nodup
  | .set S n=>h.SetOf (intKind P w) a S n
  | .ins C dx fs=>H dx=some (.own a)∧fs.length≤1000∧dx≠a∧h.get? a=some (PySem.W.instObj C dx) ∧
      ∃ mA,h.Ns1 dx mA∧(∀ f,fN (fs.lookup f) (mA f))∧PySem.Within mA (fs.map (·.1))
  | .own _=>∃ o,h.get? a=some o
  | .xd fs=>∃ mA,h.Ns1 a mA∧∀ f,fN (fs.lookup f) (mA f)
  | .rng lo hi=>∃ t u v,h.get? a=some {cls:=.type "range",data:=.fields #[.int lo t,.int hi u,.int 1 v]}
  | .frz o u=>h.get? a=some o∧bb H h a u
  | .tbl ps=>h.get? a=some {cls:=.none,data:=.fields ps}
  | .met f x=>h.get? a=some (PySem.W.methodObj (.ref f) (.ref x))
  | .ext φ=>φ h∧(∃ o,h.get? a=some o)∧∀ h1 h2:Heap,φ h1→(∀ o,h1.get? a=some o→h2.get? a=some o)→φ h2
def HOk (H:Hp) (h:Heap):Prop:=∀ a o,H a=some o→bb P w H h a o
end
section
variable {P:Program} {w:World} {H H':Hp} {h h':Heap} {a:Addr} {o:HO}
theorem bb.lt (x:bb P w H h a o):a<h.objs.size:=by
 cases o with
 | lst xs=>obtain⟨_,_,_,_,e⟩:=x;exact Heap.lt_size e
 | tup xs=>obtain⟨_,_,_,p⟩:=x;exact p.lt
 | dK kvs=>obtain⟨_,_,_,_,o,_,_,e,_⟩:=x;exact Heap.lt_size e
 | dT kvs=>obtain⟨_,_,_,_,o,_,_,e,_⟩:=x;exact Heap.lt_size e
 | set S n=>obtain⟨o,_,_,_,e,_⟩:=x;exact Heap.lt_size e
 | ins C dx fs=>obtain⟨_,_,_,e,_⟩:=x;exact Heap.lt_size e
 | own y=>obtain⟨_,e⟩:=x;exact Heap.lt_size e
 | xd fs=>obtain⟨_,⟨_,_,_,e,_⟩,_⟩:=x;exact Heap.lt_size e
 | rng lo hi=>obtain⟨_,_,_,e⟩:=x;exact Heap.lt_size e
 | frz ob u=>obtain⟨e,_⟩:=x;exact Heap.lt_size e
 | tbl ps=>exact Heap.lt_size (show h.get? a=some _ from x)
 | met f y=>exact Heap.lt_size (show h.get? a=some _ from x)
 | ext φ=>obtain⟨_,⟨_,e⟩,_⟩:=x;exact Heap.lt_size e
theorem Paired.mapP {α β:Type} {F G:α→β→Prop}:∀ {l₁:List α} {l₂:List β},Paired F l₁ l₂→(∀ a b,F a b→G a b)→Paired G l₁ l₂:=by
 intro l₁ l₂ h f
 induction h with
 | nil=>exact .nil
 | cons r t ih=>exact .cons (f _ _ r) ih
theorem bb.stay (x:bb P w H h a o) (k:∀ b u,(b=a∨H b=some (.own a))→h.get? b=some u→h'.get? b=some u)
 (ho:∀ b,H b=some (.own a)→H' b=some (.own a)) (ht:∀ b xs,H b=some (.tup xs)→H' b=some (.tup xs)):bb P w H' h' a o:=by
 induction o with
 | lst xs=>obtain⟨z,its,n,r,e⟩:=x;exact⟨z,its,n,r,k _ _ (.inl rfl) e⟩
 | tup xs=>obtain⟨z,its,r,ob,e,c⟩:=x;exact⟨z,its,r,ob,k _ _ (.inl rfl) e,c⟩
 | dK kvs=>obtain⟨z,y,vs,r,ob,es,ep,e,c⟩:=x;exact⟨z,y,vs,r,ob,es,ep,k _ _ (.inl rfl) e,c⟩
 | dT kvs =>
  obtain⟨z,y,xs,r,ob,es,ep,e,c⟩:=x;exact⟨z,y,xs,Paired.mapP r fun p q z=>⟨z.1,ht _ _ z.2.1,z.2.2⟩,ob,es,ep,k _ _ (.inl rfl) e,c⟩
 | set S n=>obtain⟨ob,es,ep,t,e,c⟩:=x;exact⟨ob,es,ep,t,k _ _ (.inl rfl) e,c⟩
 | ins C dx fs =>
  obtain⟨d,z,ne,e,mA,⟨od,es,ep,e2,c⟩,r⟩:=x;exact⟨ho _ d,z,ne,k _ _ (.inl rfl) e,mA,⟨od,es,ep,k _ _ (.inr d) e2,c⟩,r⟩
 | own y=>obtain⟨ob,e⟩:=x;exact⟨ob,k _ _ (.inl rfl) e⟩
 | xd fs=>obtain⟨mA,⟨od,es,ep,e,c⟩,r⟩:=x;exact⟨mA,⟨od,es,ep,k _ _ (.inl rfl) e,c⟩,r⟩
 | rng lo hi=>obtain⟨t,u,v,e⟩:=x;exact⟨t,u,v,k _ _ (.inl rfl) e⟩
 | frz ob u ih=>obtain⟨e,q⟩:=x;exact⟨k _ _ (.inl rfl) e,ih q⟩
 | tbl ps =>
  have e:h.get? a=some {cls:=.none,data:=.fields ps}:=x;show h'.get? a=some {cls:=.none,data:=.fields ps};exact k a _ (.inl rfl) e
 | met f y =>
  have e:h.get? a=some (PySem.W.methodObj (.ref f) (.ref y)):=x;show h'.get? a=some (PySem.W.methodObj (.ref f) (.ref y));exact k a _ (.inl rfl) e
 | ext φ=>obtain⟨p,⟨o,e⟩,st⟩:=x;exact⟨st _ _ p fun o q=>k _ _ (.inl rfl) q,⟨o,k _ _ (.inl rfl) e⟩,st⟩
theorem HOk.lt (x:HOk P w H h) (e:H a=some o):a<h.objs.size:=(x a o e).lt
theorem HOk.fresh (x:HOk P w H h) (e:h.objs.size≤a):H a=none:=by
 cases q:H a with
 | none=>rfl
 | some u=>exact absurd (Nat.lt_of_lt_of_le (x.lt q) e) (Nat.lt_irrefl _)
theorem HOk.kept (x:HOk P w H h) (k:∀ b u,h.get? b=some u→h'.get? b=some u):HOk P w H h':=fun a o e =>
 (x a o e).stay (fun b u _ q=>k b u q) (fun _ q=>q) fun _ _ q=>q
theorem HOk.laid (x:HOk P w H h) (k:∀ b u,h.get? b=some u→h'.get? b=some u) (hp:h.objs.size≤a) (new:bb P w (upd H a o) h' a o):HOk P w (upd H a o) h':=fun b u e=>by
 have hn:=x.fresh hp;by_cases hb:b=a
 · subst hb;rw[pG] at e;cases e;exact new
 · rw[aa hb] at e;exact (x b u e).stay (fun c v _ q=>k c v q) (fun c q=>by rw[aa (bF q hn)];exact q) fun c xs q=>by rw[aa (bF q hn)];exact q
end
def Rd (H:Hp) (a:Addr) (u:HO):Prop:=H a=some u∨∃ o,H a=some (.frz o u)
theorem Rd.ok {P:Program} {w:World} {H:Hp} {h:Heap} {a:Addr} {u:HO} (r:Rd H a u) (x:HOk P w H h):bb P w H h a u:=by
 rcases r with r | ⟨o,r⟩
 · exact x a u r
 · obtain⟨_,q⟩:=x a _ r;exact q
def Mut:Option HO→Prop
  | some (.lst _)=>True
  | some (.dK _)=>True
  | some (.dT _)=>True
  | some (.set _ _)=>True
  | some (.ins _ _ _)=>True
  | some (.ext _)=>True
  | _=>False
section
variable {P:Program} {w:World} {H:Hp} {h h':Heap} {x e:Addr} {o':HO}
theorem HOk.write (ok:HOk P w H h) (mu:Mut (H x)) (he:e=x∨H e=some (.own x)) (k:∀ b u,b≠e→h.get? b=some u→h'.get? b=some u) (heo:∃ u,h'.get? e=some u)
 (new:bb P w (upd H x o') h' x o'):HOk P w (upd H x o') h':=fun b u q=>by
 have nown:∀ c y,H c=some (.own y)→c≠x:=fun c y r z=>by subst z;rw[r] at mu;exact mu
 have ntup:∀ c xs,H c=some (.tup xs)→c≠x:=fun c xs r z=>by subst z;rw[r] at mu;exact mu
 by_cases hb:b=x
 · subst hb;rw[pG] at q;cases q;exact new
 · rw[aa hb] at q;by_cases hbe:b=e
   · have q':H b=some (.own x):=by
      rcases he with z | z
      · exact absurd (hbe.trans z) hb
      · rw[hbe];exact z
     rw[q] at q';cases q';obtain⟨v,hv⟩:=heo;exact⟨v,by rw[hbe];exact hv⟩
   · refine (ok b u q).stay (fun c v hc r=>k c v ?_ r) (fun c r=>by rw[aa (nown c b r)];exact r) fun c xs r=>by rw[aa (ntup c xs r)];exact r
     rcases hc with rfl | hc
     · exact hbe
     · rintro rfl
       rcases he with z | z
       · exact nown c b hc z
       · rw[hc] at z;cases z;exact hb rfl
end
structure Un (fs ex:List Addr) (H H':Hp) (h h':Heap):Prop where
  keep:∀ b o,h.get? b=some o→H b=none→b∉fs→b∉ex→h'.get? b=some o
  slot:∀ b o,h.get? b=some o→H b=none→b∈fs→b∉ex→∃ sl,h'.get? b=some {o with slots:=sl}
  free:∀ b o,h.get? b=some o→H b=none→b∉ex→H' b=none
  there:∀ b o,h.get? b=some o→b∉ex→∃ o',h'.get? b=some o'
  tups:∀ b xs,H b=some (.tup xs)→H' b=some (.tup xs)
  frzs:∀ b o u,H b=some (.frz o u)→H' b=some (.frz o u)
  tbls:∀ b ps,H b=some (.tbl ps)→∃ more,H' b=some (.tbl (ps++more))
section
variable {fs fs' ex ex':List Addr} {H H1 H2:Hp} {h h1 h2 h':Heap} {a x e:Addr} {o:HO}
theorem Un.any (u:Un fs ex H H1 h h1) {b:Addr} {ob:Obj} (q:h.get? b=some ob) (n:H b=none) (hx:b∉ex):∃ sl,h1.get? b=some {ob with slots:=sl}:=by
 by_cases hb:b∈fs
 · exact u.slot b ob q n hb hx
 · exact⟨ob.slots,u.keep b ob q n hb hx⟩
theorem Un.kept (k:∀ b u,h.get? b=some u→h'.get? b=some u):Un fs ex H H h h' :=
 ⟨fun b ob q _ _ _=>k b ob q,fun b ob q _ _ _=>⟨ob.slots,k b ob q⟩,fun _ _ _ n _=>n,fun b ob q _=>⟨ob,k b ob q⟩,fun _ _ q=>q,fun _ _ _ q=>q,fun _ ps q=>⟨#[],by rw[q];simp⟩⟩
theorem Un.refl:Un fs ex H H h h:=Un.kept fun _ _ q=>q
theorem Un.laid (k:∀ b u,h.get? b=some u→h'.get? b=some u) (hp:h.objs.size≤a) (hn:H a=none):Un fs ex H (upd H a o) h h' where
 keep:=fun b u q _ _ _=>k b u q
 slot:=fun b u q _ _ _=>⟨u.slots,k b u q⟩
 free:=fun b u q n _=>by rw[aa (Nat.ne_of_lt (Nat.lt_of_lt_of_le (Heap.lt_size q) hp))];exact n
 there:=fun b u q _=>⟨u,k b u q⟩
 tups:=fun b xs q=>by rw[aa (bF q hn)];exact q
 frzs:=fun b u xs q=>by rw[aa (bF q hn)];exact q
 tbls:=fun b ps q=>⟨#[],by rw[aa (bF q hn),q];simp⟩
theorem Un.write (mu:Mut (H x)) (he:e=x∨H e=some (.own x)) (k:∀ b u,b≠e→h.get? b=some u→h'.get? b=some u) (heo:∃ u,h'.get? e=some u):Un fs ex H (upd H x o) h h':=by
 have hx:∀ b,H b=none→b≠x:=fun b n z=>by subst z;rw[n] at mu;exact mu
 have hb:∀ b,H b=none→b≠e:=fun b n z=>by
  subst z
  rcases he with r | r
  · exact hx b n r
  · rw[n] at r;cases r
 have hm:∀ b u,H b=some u→¬ Mut (some u)→b≠x:=fun b u q nm z=>by subst z;rw[q] at mu;exact nm mu
 refine⟨fun b u q n _ _=>k b u (hb b n) q,fun b u q n _ _=>⟨u.slots,k b u (hb b n) q⟩,fun b u q n _=>by rw[aa (hx b n)];exact n,fun b u q _=>?_,
   fun b xs q=>by rw[aa (hm b _ q fun z=>z)];exact q,fun b u xs q=>by rw[aa (hm b _ q fun z=>z)];exact q,fun b ps q=>⟨#[],by rw[aa (hm b _ q fun z=>z),q];simp⟩⟩
 by_cases hbe:b=e
 · subst hbe;exact heo
 · exact⟨u,k b u hbe q⟩
end
def trk (h:Heap) (H:Hp):List Addr:=(List.range h.objs.size).filter fun a=>(H a).isSome
def jz (h:Heap) (H:Hp):Heap:=PySem.W.hideAll h (trk h H)
theorem o0 (h:Heap) (H:Hp):(jz h H).objs.size=h.objs.size:=PySem.W.hideAll_size _ _
theorem qy {h:Heap} {H:Hp} {b:Addr} {o:Obj} (e:h.get? b=some o) (n:H b=none):(jz h H).get? b=some o :=
 PySem.W.hideAll_get _ e fun hm=>by
  have q:(H b).isSome=true:=(List.mem_filter.mp hm).2;rw[n] at q;simp at q
theorem sP {h:Heap} {H:Hp} {b:Addr} {o:Obj} (e:(jz h H).get? b=some o):h.get? b=some o∧H b=none:=by
 have e':h.get? b=some o:=PySem.W.of_hideAll (trk h H) e;refine⟨e',?_⟩;cases q:H b with
 | none=>rfl
 | some x =>
  have hm:b∈trk h H:=List.mem_filter.mpr ⟨List.mem_range.mpr (Heap.lt_size e'),by simp[q]⟩;have z:(jz h H).get? b=none:=PySem.W.hideAll_none (trk h H) hm;rw[z] at e;cases e
def tJ (g h:Heap) (L:Addr):AOs:=(List.range h.objs.size).filterMap fun a=>if a=L∨(g.get? a).isSome=true then none else (h.get? a).map fun o=>(a,o)
def cK (g h:Heap) (L d:Addr):AOs:=(tJ g h L).filter fun p=>decide (p.1≠d)
structure Mod (K:Fg) (mg:SOV) (base:Heap):Prop where
  kin:K.In base
  glob:base.Ns mainGlobals mg
  blt:∃ mb,base.Ns builtinsNs mb∧∀ x:Str,x≠"__name__"→mb x=bootBuiltins x
  nolimit:base.NoLimit
structure Cx where
  prog:Program
  w:World
  K:Fg
  mg:Str→Option Value
  base:Heap
  A:Around
  N:List Str
  s₀:Shared
  H₀:Hp
  env:Env
  outer:List Env
  stack:List Env
  ex:List Addr
  fn:Str→Bool
  calm:Bool
  pn:AOs
  xe:Value→Shared→Prop
def frs (l:List Env):List Addr:=l.filterMap (·.frame)
abbrev Cx.fs (X:Cx):List Addr:=frs X.outer
def Vis (sc:Scope) (x:Str):Prop:=sc.names.lookup x=some .local∨sc.names.lookup x=some .cell∨sc.names.lookup x=some .free
def Loc (sc:Scope) (x:Str):Prop:=sc.names.lookup x=some .local∨sc.names.lookup x=some .cell
def Cl (env:Env) (h:Heap) (m:SOV) (x:Str) (u:Value):Prop :=
  (env.kindOf x=some .local∧m x=some u)∨((env.kindOf x=some .cell∨env.kindOf x=some .free)∧∃ c,env.cells.lookup x=some c∧h.IsCell c (some u))
structure Cx.Ok (X:Cx):Prop where
  mod:Mod X.K X.mg X.base
  kind:X.env.scope.kind=.function
  glob:X.env.globals=mainGlobals
  blt:X.env.builtins=builtinsNs
  above:X.s₀.heap.objs.size≤X.env.locals
  inj:∀ x y c,X.env.cells.lookup x=some c→X.env.cells.lookup y=some c→x=y
  has:∀ x,(X.env.kindOf x=some .cell∨X.env.kindOf x=some .free)→∃ c,X.env.cells.lookup x=some c
  cab:∀ x c,X.fn x=true→X.env.cells.lookup x=some c→X.s₀.heap.objs.size≤c
  hd:X.calm=true→X.A.handled=none
  frames:X.A.frames=some X.stack
  stk:X.stack=X.outer∨(X.stack=X.env::X.outer∧X.env.frame=some X.env.locals)
  exf:∀ b∈X.ex,b≠X.env.locals∧∀ x c,X.env.cells.lookup x=some c→c≠b
  bs:∀ b o,X.base.get? b=some o→X.s₀.heap.get? b=some o∧X.H₀ b=none
  bsz:X.base.objs.size≤X.s₀.heap.objs.size
  noex:∀ b o,X.base.get? b=some o→b∉X.ex
  exfs:∀ b∈X.ex,b∉X.fs
  funs:X.s₀.heap.FunFrames X.base X.outer
  frf:∀ b∈X.fs,X.H₀ b=none
structure Inv (X:Cx) (pins:AOs) (σ:List (Option V)) (H:Hp) (s:Shared):Prop where
  ok:X.Ok
  os:s.os=X.s₀.os
  bare:AllBare s.gens
  base:Un X.fs X.ex X.H₀ H X.s₀.heap s.heap
  loc:∃ m,s.heap.Ns X.env.locals m∧∀ (i:Nat) (x:Str) (v:V),X.N[i]?=some x→σ[i]?=some (some v)→Vis X.env.scope x→∃ u,aM v u∧Cl X.env s.heap m x u
  cell:∀ x c,X.env.cells.lookup x=some c→∃ v,s.heap.IsCell c v
  free:H X.env.locals=none
  freeC:∀ x c,X.env.cells.lookup x=some c→H c=none
  pin:∀ p∈X.pn++pins,s.heap.get? p.1=some p.2∧H p.1=none∧p.1≠X.env.locals∧p.1∉X.fs∧∀ v,p.2.data≠.cell v
  hok:HOk X.prog X.w H s.heap
  len:σ.length=X.N.length
section
variable {X:Cx} {pins:AOs} {σ:List (Option V)} {H H':Hp} {s:Shared} {h':Heap}
theorem Cx.Ok.nofr (ok:X.Ok) {b:Addr} {o:Obj} (e:X.base.get? b=some o):b∉X.fs:=fun hb=>by
 have:=(ok.funs.mem hb).1;rw[e] at this;cases this
theorem Inv.bs (I:Inv X pins σ H s):∀ b o,X.base.get? b=some o→s.heap.get? b=some o∧H b=none:=fun b o e =>
 ⟨I.base.keep b o (I.ok.bs b o e).1 (I.ok.bs b o e).2 (I.ok.nofr e) (I.ok.noex b o e),I.base.free b o (I.ok.bs b o e).1 (I.ok.bs b o e).2 (I.ok.noex b o e)⟩
theorem Inv.bk (I:Inv X pins σ H s):∀ b o,X.base.get? b=some o→s.heap.get? b=some o:=fun b o e=>(I.bs b o e).1
theorem Inv.mod (I:Inv X pins σ H s):Mod X.K X.mg X.base:=I.ok.mod
theorem Inv.kIn (I:Inv X pins σ H s):X.K.In s.heap:=I.ok.mod.kin.keeps I.bk
theorem Inv.lt (I:Inv X pins σ H s):X.env.locals<s.heap.objs.size:=by
 obtain⟨_,hn,_⟩:=I.loc;exact hn.lt
theorem Inv.sz (I:Inv X pins σ H s):X.s₀.heap.objs.size≤s.heap.objs.size:=Nat.le_trans I.ok.above (Nat.le_of_lt I.lt)
theorem Inv.nofs (I:Inv X pins σ H s) {a:Addr} (h:s.heap.objs.size≤a):a∉X.fs:=fun hb=>by
 obtain⟨_,o,ho,_⟩:=I.ok.funs.mem hb;exact absurd (Nat.lt_of_lt_of_le (Heap.lt_size ho) (Nat.le_trans I.sz h)) (Nat.lt_irrefl _)
theorem Inv.cne (I:Inv X pins σ H s):∀ x c,X.env.cells.lookup x=some c→c≠X.env.locals:=fun x c e z=>by
 obtain⟨v,o,ho,hd⟩:=I.cell x c e;obtain⟨m,⟨o',es,ep,ho',hd',_⟩,_⟩:=I.loc;rw[z,ho'] at ho;cases ho;rw[hd'] at hd;cases hd
theorem Inv.funs (I:Inv X pins σ H s):s.heap.FunFrames X.base X.outer:=by
 have all:∀ (l:List Env),(∀ b∈frs l,b∈X.fs)→X.s₀.heap.FunFrames X.base l→s.heap.FunFrames X.base l:=by
  intro l
  induction l with
  | nil=>intro _ _;trivial
  | cons env r ih =>
   intro hs hl;obtain⟨hk,⟨L,o,hf,hn,ho,hd⟩,hr⟩:=hl;have hL:L∈X.fs:=hs L (by unfold frs;rw[List.filterMap_cons,hf];exact mCS);obtain⟨sl,e⟩:=I.base.slot L o ho (I.ok.frf L hL) hL fun z=>I.ok.exfs L z hL;exact⟨hk,⟨L,_,hf,hn,e,hd⟩,ih (fun b hb=>hs b (by unfold frs;rw[List.filterMap_cons,hf];exact mCM _ hb)) hr⟩
 exact all X.outer (fun _ hb=>hb) I.ok.funs
theorem Inv.stack (I:Inv X pins σ H s):s.heap.FunFrames X.base X.stack:=by
 rcases I.ok.stk with e | ⟨e,hf⟩
 · rw[e];exact I.funs
 · rw[e];obtain⟨m,hn,_⟩:=I.loc;refine .cons (by rw[I.ok.kind];decide) hf hn ?_ I.funs;exact Heap.get?_none_of_le (Nat.le_trans I.ok.bsz I.ok.above)
theorem Inv.stkSub (I:Inv X pins σ H s):∀ b∈frs X.stack,b∈X.env.locals::X.fs:=fun b hb=>by
 rcases I.ok.stk with e | ⟨e,hf⟩
 · rw[e] at hb;exact mCM _ hb
 · rw[e] at hb;unfold frs at hb;rw[List.filterMap_cons,hf] at hb;exact hb
theorem Inv.stkFree (I:Inv X pins σ H s):∀ b∈frs X.stack,H b=none:=fun b hb=>by
 rcases List.mem_cons.mp (I.stkSub b hb) with e | hb
 · rw[e];exact I.free
 · obtain⟨_,o,ho,_⟩:=I.ok.funs.mem hb;exact I.base.free b o ho (I.ok.frf b hb) fun z=>I.ok.exfs b z hb
theorem Inv.step {g':Array GenState} {t':Nat} {d':Drawn} {ch:List Addr} (I:Inv X pins σ H s)
 (hch:∀ b∈ch,(b∈X.ex∨X.s₀.heap.objs.size≤b)∧b≠X.env.locals∧(∀ x c,X.env.cells.lookup x=some c→c≠b)∧∀ p∈X.pn++pins,p.1≠b)
 (keep:∀ b o,b≠X.env.locals→b∉X.fs→b∉ch→s.heap.get? b=some o→H b=none→h'.get? b=some o)
 (slot:∀ b o,b≠X.env.locals→b∈X.fs→b∉ch→s.heap.get? b=some o→H b=none→∃ sl,h'.get? b=some {o with slots:=sl}) (free:∀ b o,b∉ch→s.heap.get? b=some o→H b=none→H' b=none)
 (there:∀ b o,b∉ch→s.heap.get? b=some o→∃ o',h'.get? b=some o')
 (tups:∀ b xs,H b=some (.tup xs)→H' b=some (.tup xs)) (frzs:∀ b o u,H b=some (.frz o u)→H' b=some (.frz o u)) (tbls:∀ b ps,H b=some (.tbl ps)→∃ more,H' b=some (.tbl (ps++more)))
 (ns:∀ m,s.heap.Ns X.env.locals m→h'.Ns X.env.locals m) (hok:HOk X.prog X.w H' h') (hg:AllBare g') :
 Inv X pins σ H' {s with heap:=h',gens:=g',drawn:=d',toks:=t'}:=by
 have neL:∀ b o,X.s₀.heap.get? b=some o→b≠X.env.locals:=fun b o e=>Nat.ne_of_lt (Nat.lt_of_lt_of_le (Heap.lt_size e) I.ok.above);have neC:∀ b o,X.s₀.heap.get? b=some o→b∉X.ex→b∉ch:=fun b o e hx hb=>by
  rcases (hch b hb).1 with z | z
  · exact hx z
  · exact absurd (Nat.lt_of_lt_of_le (Heap.lt_size e) z) (Nat.lt_irrefl _)
 have cellK:∀ x c,X.env.cells.lookup x=some c→∀ v,s.heap.IsCell c v→h'.IsCell c v:=fun x c e v ⟨o,ho,hd⟩=>by
  have nch:c∉ch:=fun z=>(hch c z).2.2.1 x c e rfl;by_cases hc:c∈X.fs
  · obtain⟨sl,q⟩:=slot c o (I.cne x c e) hc nch ho (I.freeC x c e);exact⟨_,q,hd⟩
  · exact⟨o,keep c o (I.cne x c e) hc nch ho (I.freeC x c e),hd⟩
 refine⟨I.ok,I.os,hg,⟨fun b o e n hb hx=>?_,fun b o e n hb hx=>?_,fun b o e n hx=>?_,fun b o e hx=>?_,fun b xs e=>tups b xs (I.base.tups b xs e),fun b o xs e=>frzs b o xs (I.base.frzs b o xs e),fun b ps e=>?_⟩,?_,fun x c e=>?_,?_,fun x c e=>?_,fun p hp=>?_,hok,I.len⟩
 · exact keep b o (neL b o e) hb (neC b o e hx) (I.base.keep b o e n hb hx) (I.base.free b o e n hx)
 · obtain⟨sl,e1⟩:=I.base.slot b o e n hb hx;obtain⟨sl',e2⟩:=slot b _ (neL b o e) hb (neC b o e hx) e1 (I.base.free b o e n hx);exact⟨sl',e2⟩
 · obtain⟨o',e1⟩:=I.base.there b o e hx;exact free b o' (neC b o e hx) e1 (I.base.free b o e n hx)
 · obtain⟨o',e1⟩:=I.base.there b o e hx;exact there b o' (neC b o e hx) e1
 · obtain⟨m1,e1⟩:=I.base.tbls b ps e;obtain⟨m2,e2⟩:=tbls b _ e1;exact⟨m1++m2,by rw[e2,Array.append_assoc]⟩
 · obtain⟨m,hn,hl⟩:=I.loc;refine⟨m,ns m hn,fun i x v e1 e2 e3=>?_⟩;obtain⟨u,r,l⟩:=hl i x v e1 e2 e3;refine⟨u,r,?_⟩
   rcases l with l | ⟨k,c,e,z⟩
   · exact .inl l
   · exact .inr ⟨k,c,e,cellK x c e _ z⟩
 · obtain⟨v,z⟩:=I.cell x c e;exact⟨v,cellK x c e v z⟩
 · obtain⟨m,⟨o,_,_,ho,_⟩,_⟩:=I.loc;exact free _ o (fun z=>(hch _ z).2.1 rfl) ho I.free
 · obtain⟨v,o,ho,hd⟩:=I.cell x c e;exact free c o (fun z=>(hch c z).2.2.1 x c e rfl) ho (I.freeC x c e)
 · obtain⟨e,n,ne,nf,d⟩:=I.pin p hp;have nch:p.1∉ch:=fun z=>(hch p.1 z).2.2.2 p hp rfl;exact⟨keep p.1 p.2 ne nf nch e n,free p.1 p.2 nch e n,ne,nf,d⟩
theorem Inv.un {t':Nat} (I:Inv X pins σ H s) (u:Un X.fs [] H H' s.heap h') (hok:HOk X.prog X.w H' h'):Inv X pins σ H' {s with heap:=h',toks:=t'}:=by
 obtain⟨m,⟨o,es,ep,ho,r⟩,_⟩:=id I.loc;obtain⟨sl,hL⟩:=u.any ho I.free (by simp);exact I.step (g':=s.gens) (d':=s.drawn) (ch:=[]) (fun _ z=>nomatch z) (fun b o _ hb _ e n=>u.keep b o e n hb (by simp)) (fun b o _ hb _ e n=>u.slot b o e n hb (by simp)) (fun b o _ e n=>u.free b o e n (by simp)) (fun b o _ e=>u.there b o e (by simp)) u.tups u.frzs u.tbls (fun m' hm=>by
   obtain⟨o',es',ep',ho',r'⟩:=hm;rw[ho] at ho';cases ho';exact⟨_,es',ep',hL,r'⟩) hok I.bare
theorem Inv.call {g':Array GenState} {t':Nat} {d':Drawn} {ch:List Addr} (I:Inv X pins σ H s) (u:Un (frs X.stack) ch H H' s.heap h') (hok:HOk X.prog X.w H' h') (hg:AllBare g')
 (hch:∀ b∈ch,(b∈X.ex∨X.s₀.heap.objs.size≤b)∧b≠X.env.locals∧(∀ x c,X.env.cells.lookup x=some c→c≠b)∧∀ p∈X.pn++pins,p.1≠b) :
 Inv X pins σ H' {s with heap:=h',gens:=g',drawn:=d',toks:=t'}:=by
 obtain⟨m,⟨o,es,ep,ho,r⟩,_⟩:=id I.loc;obtain⟨sl,hL⟩:=u.any ho I.free fun z=>(hch _ z).2.1 rfl;exact I.step (ch:=ch) hch (fun b o hL hb hc e n=>u.keep b o e n (fun z=>(List.mem_cons.mp (I.stkSub b z)).elim hL hb) hc) (fun b o _ _ hc e n=>u.any e n hc) (fun b o hc e n=>u.free b o e n hc) (fun b o hc e=>u.there b o e hc) u.tups u.frzs u.tbls (fun m' hm=>by
   obtain⟨o',es',ep',ho',r'⟩:=hm;rw[ho] at ho';cases ho';exact⟨_,es',ep',hL,r'⟩) hok hg
theorem Inv.turned {t':Nat} {it:Addr} (I:Inv X pins σ H s) (k:∀ b o,b≠it→s.heap.get? b=some o→h'.get? b=some o) (hn:H it=none) (hL:it≠X.env.locals)
 (h1:it∈X.ex∨X.s₀.heap.objs.size≤it) (h2:∀ x c,X.env.cells.lookup x=some c→c≠it) (h3:∀ p∈X.pn++pins,p.1≠it):Inv X pins σ H {s with heap:=h',toks:=t'}:=by
 have nit:∀ b u,H b=some u→b≠it:=fun b u e z=>by rw[z,hn] at e;cases e
 refine I.step (g':=s.gens) (d':=s.drawn) (ch:=[it]) (fun b hb=>?_) (fun b o _ _ hc e _=>k b o (fun z=>hc (by simp[z])) e) (fun b o _ _ hc e _=>⟨o.slots,k b o (fun z=>hc (by simp[z])) e⟩) (fun _ _ _ _ n=>n)
  (fun b o hc e=>⟨o,k b o (fun z=>hc (by simp[z])) e⟩) (fun _ _ e=>e) (fun _ _ _ e=>e) (fun b ps e=>⟨#[],by rw[e];simp⟩) (fun m hm=>?_) (fun b u e=>?_) I.bare
 · have e:b=it:=by simpa using hb
   subst e;exact⟨h1,hL,h2,h3⟩
 · obtain⟨o,es,ep,ho,r⟩:=hm;exact⟨o,es,ep,k _ o (Ne.symm hL) ho,r⟩
 · refine (I.hok b u e).stay (fun c v hc q=>k c v ?_ q) (fun _ q=>q) fun _ _ q=>q
   rcases hc with z | z
   · rw[z];exact nit b u e
   · exact nit c _ z
theorem Inv.tok (I:Inv X pins σ H s) (t:Nat):Inv X pins σ H {s with toks:=t}:=I.un (h':=s.heap) (t':=t) Un.refl I.hok
theorem Inv.kept {t':Nat} (I:Inv X pins σ H s) (k:∀ b u,s.heap.get? b=some u→h'.get? b=some u):Inv X pins σ H {s with heap:=h',toks:=t'}:=I.un (Un.kept k) (I.hok.kept k)
theorem Inv.laid {a:Addr} {o:HO} {t':Nat} (I:Inv X pins σ H s) (k:∀ b u,s.heap.get? b=some u→h'.get? b=some u) (hp:s.heap.objs.size≤a) (new:bb X.prog X.w (upd H a o) h' a o) :
 Inv X pins σ (upd H a o) {s with heap:=h',toks:=t'}:=I.un (Un.laid k hp (I.hok.fresh hp)) (I.hok.laid k hp new)
theorem Inv.write {x e:Addr} {o:HO} {t':Nat} (I:Inv X pins σ H s) (mu:Mut (H x)) (he:e=x∨H e=some (.own x)) (k:∀ b u,b≠e→s.heap.get? b=some u→h'.get? b=some u) (heo:∃ u,h'.get? e=some u)
 (new:bb X.prog X.w (upd H x o) h' x o):Inv X pins σ (upd H x o) {s with heap:=h',toks:=t'}:=I.un (Un.write mu he k heo) (I.hok.write mu he k heo new)
theorem Inv.pins_of {pins':AOs} (I:Inv X pins σ H s) (h:∀ p∈pins',s.heap.get? p.1=some p.2∧H p.1=none∧p.1≠X.env.locals∧p.1∉X.fs∧∀ v,p.2.data≠.cell v):Inv X pins' σ H s :=
 ⟨I.ok,I.os,I.bare,I.base,I.loc,I.cell,I.free,I.freeC,fun p hp=>(mAp.mp hp).elim (fun z=>I.pin p (List.mem_append_left _ z)) (h p),I.hok,I.len⟩
theorem kG {N:List Str} (hN:N.Nodup) {i j:Nat} {x:Str} (a:N[i]?=some x) (b:N[j]?=some x):i=j:=by
 obtain⟨h1,e1⟩:=gES.mp a;obtain⟨h2,e2⟩:=gES.mp b;exact (List.getElem_inj hN).mp (e1.trans e2.symm)
theorem iM {M:Model} {A:Around} {E:VSP} {i:Nat} {x:Str} {v:V} {u:Value} {Q:Unit→Shared→Prop} (I:Inv X pins σ H s) (hN:X.N.Nodup) (hi:X.N[i]?=some x) (hx:Loc X.env.scope x) (r:aM v u)
 (h:∀ s',Inv X pins (σ.set i (some v)) H s'→(∃ a,Heap.SameBut a s.heap s'.heap∧(a=X.env.locals∨X.env.cells.lookup x=some a))→Q () s') (hf:X.fn x=true∨X.env.scope.names.lookup x=some .local:=by first | exact .inl rfl | exact .inr rfl | assumption):wpAny M A (storeName X.env x u) Q E s:=by
 obtain⟨m,hn,hl⟩:=id I.loc;have hcls:(X.env.scope.kind==.class||(X.env.scope.kind==.module&&X.env.locals != X.env.globals))=false:=by rw[I.ok.kind];rfl
 have hiσ:i<σ.length:=by rw[I.len];exact (gES.mp hi).1
 have cne:=I.cne;have tracked:∀ {a:Addr} {h':Heap},(∃ o,s.heap.get? a=some o∧H a=none)→Heap.SameBut a s.heap h'→HOk X.prog X.w H h':=fun {a h'} ha hs b ob e=>by
  obtain⟨_,_,hfree⟩:=ha;refine (I.hok b ob e).stay (fun c w' hc q=>(hs.2 c ?_).trans q) (fun _ q=>q) fun _ _ q=>q;rintro rfl
  rcases hc with rfl | hc
  · rw[hfree] at e;cases e
  · rw[hfree] at hc;cases hc
 rcases hx with hk | hk
 · refine wpAny_storeName_local hk hn (fun h' hn' hs=>?_) hcls;obtain⟨oL,_,_,hoL,_⟩:=id hn;refine h _ ⟨I.ok,I.os,I.bare,⟨fun b o e n hb hx=>?_,fun b o e n hb hx=>?_,I.base.free,fun b o e hx=>?_,I.base.tups,I.base.frzs,I.base.tbls⟩,⟨_,hn',fun j y v' e1 e2 e3=>?_⟩,fun y c e=>?_,I.free,I.freeC,fun p hp=>?_,tracked ⟨oL,hoL,I.free⟩ hs,by simpa using I.len⟩ ⟨_,hs,.inl rfl⟩
   · exact (hs.2 b (Nat.ne_of_lt (Nat.lt_of_lt_of_le (Heap.lt_size e) I.ok.above))).trans (I.base.keep b o e n hb hx)
   · obtain⟨sl,e1⟩:=I.base.slot b o e n hb hx;exact⟨sl,(hs.2 b (Nat.ne_of_lt (Nat.lt_of_lt_of_le (Heap.lt_size e) I.ok.above))).trans e1⟩
   · obtain⟨o',e1⟩:=I.base.there b o e hx;exact⟨o',(hs.2 b (Nat.ne_of_lt (Nat.lt_of_lt_of_le (Heap.lt_size e) I.ok.above))).trans e1⟩
   · by_cases hj:j=i
     · subst hj;rw[hi] at e1;cases e1;rw[List.getElem?_set_self hiσ] at e2;cases e2;exact⟨u,r,.inl ⟨hk,by simp⟩⟩
     · rw[List.getElem?_set_ne (Ne.symm hj)] at e2;obtain⟨u',r',q⟩:=hl j y v' e1 e2 e3;refine⟨u',r',?_⟩
       rcases q with ⟨k,e⟩ | ⟨k,c,e,z⟩
       · refine .inl ⟨k,?_⟩;have:y≠x:=fun e=>hj (kG hN e1 (e▸hi));simp[this,e]
       · exact .inr ⟨k,c,e,z.sameBut hs (cne y c e)⟩
   · obtain⟨w',z⟩:=I.cell y c e;exact⟨w',z.sameBut hs (cne y c e)⟩
   · obtain⟨e,n,ne,nf,d⟩:=I.pin p hp;exact⟨(hs.2 p.1 ne).trans e,n,ne,nf,d⟩
 · have hfn:X.fn x=true:=by
    rcases hf with z | z
    · exact z
    · rw[z] at hk;cases hk
   obtain⟨c,hc⟩:=I.ok.has x (.inl hk);obtain⟨w',z⟩:=I.cell x c hc;refine wpAny_storeName_cell I.ok.kind hk hc z (fun h' hc' hs=>?_);obtain⟨oc,hoc,hocd⟩:=id z;refine h {s with heap:=h'} ⟨I.ok,I.os,I.bare,⟨fun b o e n hb hx=>?_,fun b o e n hb hx=>?_,I.base.free,fun b o e hx=>?_,I.base.tups,I.base.frzs,I.base.tbls⟩,⟨m,hn.sameBut hs (Ne.symm (cne x c hc)),fun j y v' e1 e2 e3=>?_⟩,fun y c' e=>?_,I.free,I.freeC,fun p hp=>?_,tracked ⟨oc,hoc,I.freeC x c hc⟩ hs,by simpa using I.len⟩ ⟨c,hs,.inr hc⟩
   · exact (hs.2 b (Nat.ne_of_lt (Nat.lt_of_lt_of_le (Heap.lt_size e) (I.ok.cab x c hfn hc)))).trans (I.base.keep b o e n hb hx)
   · obtain⟨sl,e1⟩:=I.base.slot b o e n hb hx;exact⟨sl,(hs.2 b (Nat.ne_of_lt (Nat.lt_of_lt_of_le (Heap.lt_size e) (I.ok.cab x c hfn hc)))).trans e1⟩
   · obtain⟨o',e1⟩:=I.base.there b o e hx;exact⟨o',(hs.2 b (Nat.ne_of_lt (Nat.lt_of_lt_of_le (Heap.lt_size e) (I.ok.cab x c hfn hc)))).trans e1⟩
   · by_cases hj:j=i
     · subst hj;rw[hi] at e1;cases e1;rw[List.getElem?_set_self hiσ] at e2;cases e2;exact⟨u,r,.inr ⟨.inl hk,c,hc,hc'⟩⟩
     · rw[List.getElem?_set_ne (Ne.symm hj)] at e2;obtain⟨u',r',q⟩:=hl j y v' e1 e2 e3;refine⟨u',r',?_⟩
       rcases q with q | ⟨k,c',e,z'⟩
       · exact .inl q
       · refine .inr ⟨k,c',e,z'.sameBut hs ?_⟩;rintro rfl;exact hj (kG hN e1 (I.ok.inj _ _ _ e hc▸hi))
   · by_cases hcc:c'=c
     · subst hcc;exact⟨_,hc'⟩
     · obtain⟨w2,z2⟩:=I.cell y c' e;exact⟨w2,z2.sameBut hs hcc⟩
   · obtain⟨e,n,ne,nf,d⟩:=I.pin p hp;refine⟨(hs.2 p.1 ?_).trans e,n,ne,nf,d⟩;intro q;rw[q,hoc] at e;have q':oc=p.2:=Option.some.inj e;exact d w' (by rw[← q'];exact hocd)
theorem gL {M:Model} {A:Around} {E:VSP} {i:Nat} {x:Str} {v:V} {u:Value} {Q:Unit→Shared→Prop} (I:Inv X pins σ H s) (hN:X.N.Nodup) (hi:X.N[i]?=some x) (hx:Loc X.env.scope x) (r:aM v u)
 (h:∀ s',Inv X pins (σ.set i (some v)) H s'→Q () s') (hf:X.fn x=true∨X.env.scope.names.lookup x=some .local:=by first | exact .inl rfl | exact .inr rfl | assumption):wpAny M A (storeName X.env x u) Q E s :=
 iM I hN hi hx r (fun s' I' _=>h s' I') hf
theorem Inv.call' {s':Shared} {ch:List Addr} (I:Inv X pins σ H s) (ho:s'.os=s.os) (u:Un (frs X.stack) ch H H' s.heap s'.heap) (hok:HOk X.prog X.w H' s'.heap) (hg:AllBare s'.gens)
 (hch:∀ b∈ch,(b∈X.ex∨X.s₀.heap.objs.size≤b)∧b≠X.env.locals∧(∀ x c,X.env.cells.lookup x=some c→c≠b)∧∀ p∈X.pn++pins,p.1≠b):Inv X pins σ H' s':=by
 obtain⟨h',g',d',t',o'⟩:=s';have e:o'=s.os:=ho;subst e;exact I.call (g':=g') (t':=t') (d':=d') u hok hg hch
end
abbrev XK:=Value→Option Addr→Hp→Prop
abbrev St:=List (Option V)
abbrev VK:=V→Hp→Prop
abbrev TE:=St→Hp→VK→Prop
abbrev TT:=St→Hp→(Bool→Hp→Prop)→Prop
abbrev TA:=St→Hp→(List V→Hp→Prop)→Prop
structure dY where
  nx:St→Hp→Prop
  rt:VK
  bk:St→Hp→Prop:=fun _ _=>False
  ct:St→Hp→Prop:=fun _ _=>False
abbrev TS:=dY→St→Hp→Prop
def EP (X:Cx) (pins:AOs) (σ:St) (Q:VK) (u:Value) (s':Shared):Prop:=∃ v H',Inv X pins σ H' s'∧aM v u∧Q v H'
def TP (X:Cx) (pins:AOs) (σ:St) (Q:Bool→Hp→Prop) (b:Bool) (s':Shared):Prop:=∃ H',Inv X pins σ H' s'∧Q b H'
def AP (X:Cx) (pins:AOs) (σ:St) (Q:List V→Hp→Prop) (us:List Value) (s':Shared):Prop:=∃ vs H',Inv X pins σ H' s'∧aO vs us∧Q vs H'
def SP (X:Cx) (pins:AOs) (D:dY) (f:Flow) (s':Shared):Prop :=
  match f with
  | .next=>∃ σ' H',Inv X pins σ' H' s'∧D.nx σ' H'
  | .brk=>∃ σ' H',Inv X pins σ' H' s'∧D.bk σ' H'
  | .cont=>∃ σ' H',Inv X pins σ' H' s'∧D.ct σ' H'
  | .ret u=>∃ v σ' H',Inv X pins σ' H' s'∧aM v u∧D.rt v H'
def PE (X:Cx) (e:Expr) (t:TE):Prop :=
  ∀ (pins:AOs) (s:Shared) (σ:St) (H:Hp) (Q:VK),Inv X pins σ H s→t σ H Q→wpAny (model X.prog X.w) X.A (eval e X.env) (EP X pins σ Q) X.xe s
def PT (X:Cx) (e:Expr) (t:TT):Prop :=
  ∀ (pins:AOs) (s:Shared) (σ:St) (H:Hp) (Q:Bool→Hp→Prop),Inv X pins σ H s→t σ H Q→wpAny (model X.prog X.w) X.A (isTrue e X.env (eval e X.env)) (TP X pins σ Q) X.xe s
def PW (X:Cx) (e:Expr) (t:TT):Prop :=
  ∀ (whole:Sem Value) (pins:AOs) (s:Shared) (σ:St) (H:Hp) (Q:Bool→Hp→Prop),Inv X pins σ H s→t σ H Q→wpAny (model X.prog X.w) X.A (isTrue e X.env whole) (TP X pins σ Q) X.xe s
theorem PW.pt {X:Cx} {e:Expr} {t:TT} (h:PW X e t):PT X e t:=h _
def PA (X:Cx) (es:List Expr) (t:TA):Prop :=
  ∀ (pos:Pos) (pins:AOs) (s:Shared) (σ:St) (H:Hp) (Q:List V→Hp→Prop),Inv X pins σ H s→t σ H Q→wpAny (model X.prog X.w) X.A (spliced (backTo pos (starEach es X.env))) (AP X pins σ Q) X.xe s
def PS (X:Cx) (st:Stmt) (t:TS):Prop :=
  ∀ (pins:AOs) (s:Shared) (σ:St) (H:Hp) (D:dY),Inv X pins σ H s→t D σ H→wpAny (model X.prog X.w) X.A (exec st X.env) (SP X pins D) X.xe s
def PSs (X:Cx) (st:List Stmt) (t:TS):Prop :=
  ∀ (pins:AOs) (s:Shared) (σ:St) (H:Hp) (D:dY),Inv X pins σ H s→t D σ H→wpAny (model X.prog X.w) X.A (execs st X.env) (SP X pins D) X.xe s
theorem thn {α:Type} {t:Sem α} {Q Q':α→Shared→Prop} {M:Model} {A:Around} {E:VSP} {s:Shared} (h:wpAny M A t Q E s) (hQ:∀ a s,Q a s→Q' a s):wpAny M A t Q' E s:=wpAny_mono h hQ fun _ _ x=>x
section
variable {X:Cx}
inductive Au (o:Option (Option V)) (H:Hp) (Q:VK):Prop
  | mk (v:V) (h:o=some (some v)) (q:Q v H):Au o H Q
inductive BlR (x:V) (H:Hp) (Q:Bool→Hp→Prop):Prop
  | mk (c:Bool) (h:x=.bl c) (q:Q c H):BlR x H Q
inductive wJ (x:V) (H:Hp) (Q:Int→Hp→Prop):Prop
  | mk (i:Int) (h:x=.int i) (q:Q i H):wJ x H Q
inductive uQ (x y:V) (H:Hp) (C:Int→Int→Prop) (g:Int→Int→V) (Q:VK):Prop
  | mk (i j:Int) (h:x=.int i) (h':y=.int j) (c:C i j) (q:Q (g i j) H):uQ x y H C g Q
inductive rB (x y:V) (H:Hp) (g:Int→Int→V) (Q:VK):Prop
  | mk (i j:Int) (h:x=.int i) (h':y=.int j) (q:Q (g i j) H):rB x y H g Q
def d9 (i:Nat):TE:=fun σ H Q=>Au σ[i]? H Q
def tC (v:V):TE:=fun _ H Q=>Q v H
theorem vD {i:Nat} {x:Str} {pos:Pos} (hN:X.N[i]?=some x) (hv:Vis X.env.scope x) (hd:(x==("__debug__":Str))=false:=by decide) (hcd:(x==("__classdict__":Str))=false:=by decide):PE X (.Name x pos) (d9 i):=by
 intro pins s σ H Q I h;obtain⟨v,e,h⟩:=h;obtain⟨m,hn,hl⟩:=I.loc;obtain⟨u,r,l⟩:=hl i x v hN e hv;have fin:EP X pins σ Q u s:=⟨v,H,I,r,h⟩
 rcases l with ⟨hk,hm⟩ | ⟨hk,c,hc,hcell⟩
 · exact wpAny_Name (wpAny_loadName_local I.ok.kind hk hn hm fin) hd
 · rcases hk with hk | hk
   · exact wpAny_Name (wpAny_loadName_cell I.ok.kind hk hc hcell fin) hd
   · exact wpAny_Name (wpAny_loadName_free I.ok.kind hk hc hcell fin hcd) hd
theorem pH {i j pos}:PE X (.Constant (.int i) j pos) (tC (.int i)):=fun _ _ _ H _ I h=>wpAny_Constant_int ⟨.int i,H,I.tok _,⟨_,rfl⟩,h⟩
theorem fC {b j pos}:PE X (.Constant (.bool b) j pos) (tC (.bl b)):=fun _ _ _ H _ I h=>Constant_bool ⟨.bl b,H,I,rfl,h⟩
theorem vE {j pos}:PE X (.Constant .none j pos) (tC .non):=fun _ _ _ H _ I h=>Constant_none ⟨.non,H,I,rfl,h⟩
theorem pD {x j pos}:PE X (.Constant (.str x) j pos) (tC (.str x)):=fun _ _ _ H _ I h=>Calls.Constant_str ⟨.str x,H,I.tok _,⟨_,rfl⟩,h⟩
def Gl (X:Cx) (x:Str):Prop:=X.env.kindOf x=some .globalImplicit
theorem mE {E:VSP} {pins:AOs} {s:Shared} {σ:St} {H:Hp} {x:Str} {u:Value} {pos:Pos} {Q:VSP} (I:Inv X pins σ H s) (hg:Gl X x) (hm:X.mg x=some u) (h:Q u s)
 (hd:(x==("__debug__":Str))=false:=by decide):wpAny (model X.prog X.w) X.A (eval (.Name x pos) X.env) Q E s :=
 Calls.Name_function_global I.ok.kind hg (Calls.loadGlobal_global (by rw[I.ok.glob];exact I.mod.glob.keeps I.bk) hm h) hd
theorem dW {E:VSP} {pins:AOs} {s:Shared} {σ:St} {H:Hp} {x:Str} {u:Value} {pos:Pos} {Q:VSP} (I:Inv X pins σ H s) (hg:Gl X x) (hm:X.mg x=none) (hv:bootBuiltins x=some u) (h:Q u s)
 (hn:x≠"__name__":=by decide) (hd:(x==("__debug__":Str))=false:=by decide):wpAny (model X.prog X.w) X.A (eval (.Name x pos) X.env) Q E s:=by
 obtain⟨mb,h1,h2⟩:=I.mod.blt;exact Calls.Name_function_global I.ok.kind hg (Calls.loadGlobal_builtin (by rw[I.ok.glob];exact I.mod.glob.keeps I.bk) hm (by rw[I.ok.blt];exact h1.keeps I.bk) ((h2 x hn).trans hv) h) hd
theorem jp {x:Str} {v:V} {u:Value} {pos:Pos} (hg:Gl X x) (hm:X.mg x=some u) (r:aM v u) (hd:(x==("__debug__":Str))=false:=by decide):PE X (.Name x pos) (tC v) :=
 fun _ _ _ H _ I h=>mE I hg hm ⟨v,H,I,r,h⟩ hd
theorem dn {x:Str} {v:V} {u:Value} {pos:Pos} (hg:Gl X x) (hm:X.mg x=none) (hv:bootBuiltins x=some u) (r:aM v u) (hn:x≠"__name__":=by decide) (hd:(x==("__debug__":Str))=false:=by decide):PE X (.Name x pos) (tC v) :=
 fun _ _ _ H _ I h=>dW I hg hm hv ⟨v,H,I,r,h⟩ hn hd
variable {a b:Expr} {ta tb:TE} {pos:Pos}
def PC (X:Cx) (op:CmpOp) (a b:Expr) (t:TE):Prop :=
  ∀ (pins:AOs) (s:Shared) (σ:St) (H:Hp) (Q:VK),Inv X pins σ H s→t σ H Q →
    wpAny (model X.prog X.w) X.A (eval a X.env) (fun v s₁=>wpAny (model X.prog X.w) X.A (eval b X.env) (fun u s₂=>wpAny (model X.prog X.w) X.A (compareOp op v u) (EP X pins σ Q) X.xe s₂) X.xe s₁) X.xe s
theorem qi (b:Expr) {op:CmpOp} (h:op≠.In) (h2:op≠.NotIn):behindInMarks op b=false:=by
 have e1:(op==CmpOp.In)=false:=by cases op <;> first | rfl | exact absurd rfl h
 have e2:(op==CmpOp.NotIn)=false:=by cases op <;> first | rfl | exact absurd rfl h2
 cases b <;> simp[behindInMarks,e1,e2]
def wV (ta:TE):TE:=fun σ H Q=>ta σ H fun x H1=>Q (.bl (!decide (x=.non))) H1
theorem aM.none_iff {x:V} {v:Value} (r:aM x v):(v==Value.none)=decide (x=.non):=by
 cases x with
 | non=>cases r;rfl
 | bl _=>cases r;rfl
 | int _=>obtain⟨t,rfl⟩:=r;rfl
 | str _=>obtain⟨t,rfl⟩:=r;rfl
 | byt _=>obtain⟨t,rfl⟩:=r;rfl
 | flt _=>obtain⟨t,rfl⟩:=r;rfl
 | ref _=>cases r;rfl
 | ty _=>cases r;rfl
theorem sJ {j pos'} (ha:PE X a ta):PC X .IsNot a (.Constant .none j pos') (wV ta):=by
 intro pins s σ H Q I h;refine thn (ha pins s σ H _ I h) fun v s1 zy4=>?_;obtain⟨x,H1,I1,r1,q1⟩:=zy4;exact Constant_none (isnot_none_gen ⟨.bl _,H1,I1,by rw[r1.none_iff];rfl,q1⟩)
def tB (t:TE):TT:=fun σ H Q=>t σ H fun x H1=>BlR x H1 Q
theorem pX {op:CmpOp} {t:TE} (h:PC X op a b t) (h1:behindInMarks op b=false:=by first | exact qi _ (by decide) (by decide) | rfl):PT X (.Compare a [op] [b] pos) (tB t):=by
 intro pins s σ H Q I hw;refine wpAny_isTrue_Compare1 (thn (h pins s σ H _ I hw) fun v s1 h1=>thn h1 fun u s2 h2=>thn h2 fun c s3 zy5=>?_) h1;obtain⟨x,H1,I1,r1,q1⟩:=zy5;obtain⟨d,rfl,q⟩:=q1;cases r1;exact wpAny_truthy_bool ⟨H1,I1,q⟩
theorem cS {e:Expr} {t:TE} (h:PE X e t) (he:∀ whole,isTrue e X.env whole=(do let v ← whole;standAt e.pos;holding [v] (truthy v)):=by intro _;rfl):PT X e (tB t):=by
 intro pins s σ H Q I hw;refine isTrue_plain (thn (h pins s σ H _ I hw) fun v s1 zy6=>?_) (he _);obtain⟨x,H1,I1,r1,q1⟩:=zy6;obtain⟨d,rfl,q⟩:=q1;cases r1;exact wpAny_truthy_bool ⟨H1,I1,q⟩
variable {tA tB':TT} {cK:List Expr}
def xn (t u:TT):TT:=fun σ H Q=>t σ H fun c H1=>if c=true then u σ H1 Q else Q false H1
def tOr (t u:TT):TT:=fun σ H Q=>t σ H fun c H1=>if c=true then Q true H1 else u σ H1 Q
def wW (t:TT):TT:=fun σ H Q=>t σ H fun c H1=>Q (!c) H1
theorem bh (ha:PT X a tA):PW X (.BoolOp .And [a] pos) tA:=by
 intro wh pins s σ H Q I h;refine isTrue_and (thn (ha pins s σ H Q I h) fun c s1 e=>?_);cases c with
 | true=>exact isTrue_and_nil e
 | false=>exact e
theorem dk (ha:PT X a tA):PW X (.BoolOp .Or [a] pos) tA:=by
 intro wh pins s σ H Q I h;refine isTrue_or (thn (ha pins s σ H Q I h) fun c s1 e=>?_);cases c with
 | false=>exact isTrue_or_nil e
 | true=>exact e
theorem b6 (ha:PT X a tA) (hb:PW X (.BoolOp .And (b::cK) pos) tB'):PW X (.BoolOp .And (a::b::cK) pos) (xn tA tB'):=by
 intro wh pins s σ H Q I h;refine isTrue_and (thn (ha pins s σ H _ I h) fun c s1 zy7=>?_);obtain⟨H1,I1,q1⟩:=zy7;cases c with
 | true=>exact hb wh pins s1 σ H1 Q I1 q1
 | false=>exact⟨H1,I1,q1⟩
theorem fw (ha:PT X a tA) (hb:PW X (.BoolOp .Or (b::cK) pos) tB'):PW X (.BoolOp .Or (a::b::cK) pos) (tOr tA tB'):=by
 intro wh pins s σ H Q I h;refine isTrue_or (thn (ha pins s σ H _ I h) fun c s1 zy8=>?_);obtain⟨H1,I1,q1⟩:=zy8;cases c with
 | true=>exact⟨H1,I1,q1⟩
 | false=>exact hb wh pins s1 σ H1 Q I1 q1
theorem gU (ha:PT X a tA):PT X (.UnaryOp .Not a pos) (wW tA):=by
 intro pins s σ H Q I h;exact isTrue_not (ha pins s σ H (fun c H1=>Q (!c) H1) I h)
def xm (ta tb:TE):TE:=fun σ H Q=>ta σ H fun x H1=>∃ c,x=.bl c∧if c=true then tb σ H1 Q else Q (.bl false) H1
def AY (ta tb:TE):TE:=fun σ H Q=>ta σ H fun x H1=>∃ c,x=.bl c∧if c=true then Q (.bl true) H1 else tb σ H1 Q
def wU (ta:TE):TE:=fun σ H Q=>ta σ H fun x H1=>∃ c,x=.bl c∧Q (.bl (!c)) H1
def tIf (t:TT) (ta tb:TE):TE:=fun σ H Q=>t σ H fun c H1=>if c=true then ta σ H1 Q else tb σ H1 Q
theorem fz {c:Expr} (hc:PT X c tA) (ha:PE X a ta) (hb:PE X b tb):PE X (.IfExp c a b pos) (tIf tA ta tb):=by
 intro pins s σ H Q I h;refine wpAny_IfExp (thn (hc pins s σ H _ I h) fun d s1 zy12=>?_);obtain⟨H1,I1,q1⟩:=zy12;cases d with
 | true=>exact ha pins s1 σ H1 Q I1 q1
 | false=>exact hb pins s1 σ H1 Q I1 q1
end
def SqL (K:Fg) (H:Hp) (a:Addr) (xs:List V):Prop :=
  Rd H a (.lst xs) ∨
    ∃ (o:Obj) (its:Array Value) (n:Nat),K.lookup a=some o∧o.cls=.type "list"∧o.dict=none∧o.data=.seq its n∧its.size≤sizeLine∧aO xs its.toList
def SqT (K:Fg) (H:Hp) (a:Addr) (xs:List V):Prop :=
  Rd H a (.tup xs) ∨
    ∃ (o:Obj) (its:Array Value) (n:Nat),K.lookup a=some o∧o.cls=.type "tuple"∧o.data=.seq its n∧its.size≤sizeLine∧aO xs its.toList
def Ci:Value→Option V
  | .none=>some .non
  | .bool b=>some (.bl b)
  | .int i _=>some (.int i)
  | .str x _=>some (.str x)
  | .bytes b _=>some (.byt b)
  | .float b _=>some (.flt b)
  | .ref a=>some (.ref a)
  | .type n=>some (.ty n)
  | _=>none
theorem aM.abs {x:V} {u:Value} (r:aM x u):Ci u=some x:=by
 cases x with
 | non=>cases r;rfl
 | bl _=>cases r;rfl
 | int _=>obtain⟨t,rfl⟩:=r;rfl
 | str _=>obtain⟨t,rfl⟩:=r;rfl
 | byt _=>obtain⟨t,rfl⟩:=r;rfl
 | flt _=>obtain⟨t,rfl⟩:=r;rfl
 | ref _=>cases r;rfl
 | ty _=>cases r;rfl
theorem aM.inj {x y:V} {u:Value} (r:aM x u) (q:aM y u):x=y:=Option.some.inj (r.abs.symm.trans q.abs)
theorem aO.inj:∀ {xs ys:List V} {us:List Value},aO xs us→aO ys us→xs=ys:=by
 intro xs ys us h
 induction h generalizing ys with
 | nil=>intro h';cases h';rfl
 | cons r t ih=>intro h';cases h' with | cons r' t'=>rw[r.inj r',ih t']
section
variable {X:Cx} {pins:AOs} {σ:St} {H:Hp} {s:Shared} {a:Addr} {xs ys:List V}
theorem SqL.of {K:Fg} (h:H a=some (.lst xs)):SqL K H a xs:=.inl (.inl h)
theorem SqT.of {K:Fg} (h:H a=some (.tup xs)):SqT K H a xs:=.inl (.inl h)
theorem Inv.list (I:Inv X pins σ H s) (h:SqL X.K H a xs):∃ its:List Value,aO xs its∧PlainL s.heap a its.toArray∧xs.length≤sizeLine:=by
 rcases h with h | ⟨o,its,n,hk,hc,hd,hs,hz,r⟩
 · obtain⟨z,its,n,r,e⟩:=h.ok I.hok;exact⟨its,r,⟨_,n,e,rfl,rfl,rfl⟩,z⟩
 · refine⟨its.toList,r,⟨o,n,I.kIn a o hk,hc,hd,by simpa using hs⟩,?_⟩;have e:=r.length;simp only[Array.length_toList] at e;lia
theorem Inv.tuple (I:Inv X pins σ H s) (h:SqT X.K H a xs):∃ its:List Value,aO xs its∧IsTup s.heap a its.toArray∧xs.length≤sizeLine:=by
 rcases h with h | ⟨o,its,n,hk,hc,hs,hz,r⟩
 · obtain⟨z,its,r,p⟩:=h.ok I.hok;exact⟨its,r,p,z⟩
 · refine⟨its.toList,r,⟨o,I.kIn a o hk,hc,n,by simpa using hs⟩,?_⟩;have e:=r.length;simp only[Array.length_toList] at e;lia
theorem Inv.list_inj (I:Inv X pins σ H s) (h:SqL X.K H a xs) (h':SqL X.K H a ys):xs=ys:=by
 obtain⟨its,r,⟨o,n,e,_,_,d⟩,_⟩:=I.list h;obtain⟨its',r',⟨o',n',e',_,_,d'⟩,_⟩:=I.list h';rw[e] at e';cases e';rw[d] at d'
 injection d' with d1 _
 have:its=its':=by simpa using congrArg Array.toList d1
 subst this;exact r.inj r'
theorem Inv.tuple_inj (I:Inv X pins σ H s) (h:SqT X.K H a xs) (h':SqT X.K H a ys):xs=ys:=by
 obtain⟨its,r,⟨o,e,_,n,d⟩,_⟩:=I.tuple h;obtain⟨its',r',⟨o',e',_,n',d'⟩,_⟩:=I.tuple h';rw[e] at e';cases e';rw[d] at d'
 injection d' with d1 _
 have:its=its':=by simpa using congrArg Array.toList d1
 subst this;exact r.inj r'
end
abbrev Cx.wish (X:Cx) (E:VSP):Cx:={X with xe:=E}
abbrev Cx.nox (X:Cx):Cx:=X.wish fun _ _=>False
theorem Cx.Ok.wish {X:Cx} (ok:X.Ok) (E:VSP):(X.wish E).Ok :=
 ⟨ok.mod,ok.kind,ok.glob,ok.blt,ok.above,ok.inj,ok.has,ok.cab,ok.hd,ok.frames,ok.stk,ok.exf,ok.bs,ok.bsz,ok.noex,ok.exfs,ok.funs,ok.frf⟩
theorem Cx.Ok.unwish {X:Cx} {E:VSP} (ok:(X.wish E).Ok):X.Ok :=
 ⟨ok.mod,ok.kind,ok.glob,ok.blt,ok.above,ok.inj,ok.has,ok.cab,ok.hd,ok.frames,ok.stk,ok.exf,ok.bs,ok.bsz,ok.noex,ok.exfs,ok.funs,ok.frf⟩
section
variable {X:Cx} {pins:AOs} {σ:St} {H:Hp} {s:Shared} {E:VSP}
theorem Inv.wish (I:Inv X pins σ H s) (E:VSP):Inv (X.wish E) pins σ H s:=⟨I.ok.wish E,I.os,I.bare,I.base,I.loc,I.cell,I.free,I.freeC,I.pin,I.hok,I.len⟩
theorem Inv.unwish (I:Inv (X.wish E) pins σ H s):Inv X pins σ H s:=⟨I.ok.unwish,I.os,I.bare,I.base,I.loc,I.cell,I.free,I.freeC,I.pin,I.hok,I.len⟩
theorem SP.unwish {D:dY} {f:Flow} {s':Shared} (h:SP (X.wish E) pins D f s'):SP X pins D f s':=by
 cases f with
 | next=>obtain⟨σ',H',I,q⟩:=h;exact⟨σ',H',I.unwish,q⟩
 | brk=>obtain⟨σ',H',I,q⟩:=h;exact⟨σ',H',I.unwish,q⟩
 | cont=>obtain⟨σ',H',I,q⟩:=h;exact⟨σ',H',I.unwish,q⟩
 | ret u=>obtain⟨v,σ',H',I,r,q⟩:=h;exact⟨v,σ',H',I.unwish,r,q⟩
theorem PSs.nox {st:List Stmt} {t:TS} (h:PSs X.nox st t):PSs X st t:=fun pins s σ H D I hw =>
 wpAny_mono (h pins s σ H D (I.wish _) hw) (fun _ _ q=>q.unwish) fun _ _ z=>False.elim z
end
section
variable {X:Cx} {st:Stmt} {cK:List Stmt} {t u:TS} {e:Expr} {te:TE} {pos:Pos}
def tQ:TS:=fun D σ H=>D.nx σ H
def v4 (t u:TS):TS:=fun D σ H=>t {D with nx:=u D} σ H
theorem aF:PSs X [] tQ:=fun _ _ σ H _ I h=>wpAny_execs_nil ⟨σ,H,I,h⟩
theorem pE (h1:PS X st t) (h2:PSs X cK u):PSs X (st::cK) (v4 t u):=by
 intro pins s σ H D I h;refine wpAny_execs_cons (thn (h1 pins s σ H {D with nx:=u D} I h) fun f s1 q=>?_);cases f with
 | next =>
  obtain⟨σ',H',I',q⟩:=q;exact h2 pins s1 σ' H' D I' q
 | ret v=>exact q
 | brk=>exact q
 | cont=>exact q
theorem pI (h1:PS X st t):PSs X [st] t:=by
 intro pins s σ H D I h;refine wpAny_execs_cons (thn (h1 pins s σ H D I h) fun f s1 q=>?_);cases f with
 | next=>exact wpAny_execs_nil q
 | ret v=>exact q
 | brk=>exact q
 | cont=>exact q
theorem Inv.quiet {pins:AOs} {σ:St} {H:Hp} {s:Shared} (I:Inv X pins σ H s):interactive X.env=false:=by simp[interactive,I.ok.kind]
def oP (te:TE):TS:=fun D σ H=>te σ H fun _ H1=>D.nx σ H1
theorem ak (he:PE X e te) (hs:swapsWith e none pos.line X.env=pure false:=by rfl):PS X (.Expr e pos) (oP te):=by
 intro pins s σ H D I h;refine wpAny_Expr_any (thn (he pins s σ H _ I h) fun v s1 zy13=>?_) I.quiet hs;obtain⟨x,H1,I1,r1,q1⟩:=zy13;exact⟨σ,H1,I1,q1⟩
def wT (te:TE):TS:=fun D σ H=>te σ H D.rt
theorem au (he:PE X e te):PS X (.Return (some e) pos) (wT te):=by
 intro pins s σ H D I h;refine wpAny_Return_some (thn (he pins s σ H _ I h) fun v s1 zy14=>?_);obtain⟨x,H1,I1,r1,q1⟩:=zy14;exact⟨x,σ,H1,I1,r1,q1⟩
def wZ (c:TT) (t u:TS):TS:=fun D σ H=>c σ H fun b H1=>if b=true then t D σ H1 else u D σ H1
theorem aN {c:Expr} {a b:List Stmt} {tc:TT} (hc:PT X c tc) (ha:PSs X a t) (hb:PSs X b u):PS X (.If c a b pos) (wZ tc t u):=by
 intro pins s σ H D I h;refine wpAny_If (thn (hc pins s σ H _ I h) fun d s1 zy15=>?_);obtain⟨H1,I1,q1⟩:=zy15;cases d with
 | true=>exact ha pins s1 σ H1 D I1 q1
 | false=>exact hb pins s1 σ H1 D I1 q1
end
abbrev TG:=V→St→Hp→(St→Hp→Prop)→Prop
abbrev TGs:=List V→St→Hp→(St→Hp→Prop)→Prop
def PG (X:Cx) (target:Expr) (t:TG):Prop :=
  ∀ (pins:AOs) (s:Shared) (σ:St) (H:Hp) (v:V) (u:Value) (Q:St→Hp→Prop),Inv X pins σ H s→aM v u→t v σ H Q →
    wpAny (model X.prog X.w) X.A (assign target X.env u) (fun _ s'=>∃ σ' H',Inv X pins σ' H' s'∧Q σ' H') X.xe s
def PGs (X:Cx) (ts:List Expr) (t:TGs):Prop :=
  ∀ (pins:AOs) (s:Shared) (σ:St) (H:Hp) (vs:List V) (us:List Value) (Q:St→Hp→Prop),Inv X pins σ H s→aO vs us→t vs σ H Q →
    wpAny (model X.prog X.w) X.A (assignInOrder ((assignEach ts X.env).map (·.2)) us) (fun _ s'=>∃ σ' H',Inv X pins σ' H' s'∧Q σ' H') X.xe s
abbrev TIp:=V→V→Hp→VK→Prop
def PIp (X:Cx) (op:Operator) (t:TIp):Prop :=
  ∀ (pins:AOs) (s:Shared) (σ:St) (H:Hp) (x y:V) (v u:Value) (Q:VK),Inv X pins σ H s→aM x v→aM y u→t x y H Q →
    wpAny (model X.prog X.w) X.A (inplaceOp op v u) (EP X pins σ Q) X.xe s
section
variable {X:Cx} {pos:Pos}
def gg (i:Nat):TG:=fun v σ H Q=>Q (σ.set i (some v)) H
theorem ao {i:Nat} {x:Str} (hN:X.N.Nodup) (hi:X.N[i]?=some x) (hx:Loc X.env.scope x) (hf:X.fn x=true∨X.env.scope.names.lookup x=some .local:=by first | exact .inl rfl | exact .inr rfl | assumption):PG X (.Name x pos) (gg i):=by
 intro pins s σ H v u Q I r h;exact wpAny_assign_Name (gL I hN hi hx r (fun s' I'=>⟨_,H,I',h⟩) hf)
def An:TGs:=fun vs σ H Q=>vs=[]∧Q σ H
inductive rC (t:TG) (u:TGs) (vs:List V) (σ:St) (H:Hp) (Q:St→Hp→Prop):Prop
  | mk (v:V) (r:List V) (h:vs=v::r) (q:t v σ H fun σ' H'=>u r σ' H' Q):rC t u vs σ H Q
def qF (t:TG) (u:TGs):TGs:=fun vs σ H Q=>rC t u vs σ H Q
theorem dl:PGs X [] An:=by
 intro pins s σ H vs us Q I r h;obtain⟨e,h⟩:=h;subst e;cases r;exact assignInOrder_nil ⟨σ,H,I,h⟩
theorem bg {e:Expr} {es:List Expr} {t:TG} {u:TGs} (h1:PG X e t) (h2:PGs X es u)
 (hs:(assignEach (e::es) X.env).map (·.2)=assign e X.env::(assignEach es X.env).map (·.2):=by rfl):PGs X (e::es) (qF t u):=by
 intro pins s σ H vs us Q I r h;obtain⟨v,vr,e1,h⟩:=h;subst e1;cases r with
 | cons r rr =>
  rw[hs];refine assignInOrder_cons (thn (h1 pins s σ H _ _ _ I r h) fun _ s1 zy16=>?_);obtain⟨σ1,H1,I1,q1⟩:=zy16;exact h2 pins s1 σ1 H1 _ _ Q I1 rr q1
inductive uR (K:Fg) (n:Nat) (t:TGs) (v:V) (σ:St) (H:Hp) (Q:St→Hp→Prop):Prop
  | mk (a:Addr) (xs:List V) (h:v=.ref a) (s:SqT K H a xs) (l:xs.length=n) (q:t xs σ H Q):uR K n t v σ H Q
def Am (K:Fg) (n:Nat) (t:TGs):TG:=fun v σ H Q=>uR K n t v σ H Q
theorem eP {es:List Expr} {k:Nat} {t:TGs} {n:Nat} (hc:X.calm=true) (h:PGs X es t)
 (hn:(assignEach es X.env).length=n:=by rfl) (hst:(assignEach es X.env).findIdx? (·.1)=none:=by rfl):PG X (.Tuple es k pos) (Am X.K n t):=by
 intro pins s σ H v u Q I r hw;obtain⟨a,xs,e1,hq,hl,hw⟩:=hw;subst e1;cases r;obtain⟨its,rv,ht,hz⟩:=I.tuple hq;refine assign_Tuple_tuple (I.ok.hd hc) ht (by simp[hn,← hl,rv.length]) hst fun h' hx=>?_;have I1:Inv X pins σ H {s with heap:=h'}:=I.kept (t':=s.toks) fun b o e=>hx b o (Nat.ne_of_lt (Heap.lt_size e)) e;exact h pins _ σ H xs _ Q I1 (by simpa using rv) hw
def rT (te:TE) (g:TG):TS:=fun D σ H=>te σ H fun x H1=>g x σ H1 D.nx
theorem pY {tg e:Expr} {te:TE} {g:TG} (he:PE X e te) (hg:PG X tg g) (hs:swapsWithSole [tg] e pos.line X.env=pure false:=by rfl) (hw:swappedStores [tg] e X.env=pure none:=by rfl)
 (h1:(assignEach [tg] X.env).map (·.2)=[assign tg X.env]:=by rfl):PS X (.Assign [tg] e pos) (rT te g):=by
 intro pins s σ H D I h;refine wpAny_Assign_stores (thn (he pins s σ H _ I h) fun v s1 zy20=>?_) hs hw;obtain⟨x,H1,I1,r1,q1⟩:=zy20;rw[h1];exact thn (hg pins s1 σ H1 x v _ I1 r1 q1) fun _ s2 q=>q
theorem pN {i:Nat} {x:Str} {e:Expr} {te:TE} {pos':Pos} (hN:X.N.Nodup) (hi:X.N[i]?=some x) (hx:Loc X.env.scope x) (he:PE X e te) (hs:swapsWith e (some (.Name x pos')) pos.line X.env=pure false:=by rfl) (hf:X.fn x=true∨X.env.scope.names.lookup x=some .local:=by first | exact .inl rfl | exact .inr rfl | assumption) :
 PS X (.Assign [.Name x pos'] e pos) (rT te (gg i)):=by
 intro pins s σ H D I h;refine wpAny_Assign_Name (thn (he pins s σ H _ I h) fun v s1 zy21=>?_) hs;obtain⟨y,H1,I1,r1,q1⟩:=zy21;exact gL I1 hN hi hx r1 (fun s2 I2=>⟨_,H1,I2,q1⟩) hf
def AZ (i:Nat) (te:TE) (ti:TIp):TS:=fun D σ H=>∃ x,σ[i]?=some (some x)∧te σ H fun y H1=>ti x y H1 fun z H2=>D.nx (σ.set i (some z)) H2
theorem jm {i:Nat} {x:Str} {e:Expr} {te:TE} {op:Operator} {ti:TIp} {pos':Pos} (hN:X.N.Nodup) (hi:X.N[i]?=some x) (hx:Loc X.env.scope x) (he:PE X e te) (ho:PIp X op ti) (hf:X.fn x=true∨X.env.scope.names.lookup x=some .local:=by first | exact .inl rfl | exact .inr rfl | assumption) :
 PS X (.AugAssign (.Name x pos') op e pos) (AZ i te ti):=by
 intro pins s σ H D I h;obtain⟨v,e1,h⟩:=h;obtain⟨m,hn,hl⟩:=I.loc;have vis:Vis X.env.scope x:=by rcases hx with k | k;exact .inl k;exact .inr (.inl k)
 obtain⟨u,r,l⟩:=hl i x v hi e1 vis;refine wpAny_AugAssign_Name ?_;have go:wpAny (model X.prog X.w) X.A (eval e X.env) (fun w s₂=>wpAny (model X.prog X.w) X.A (inplaceOp op u w) (fun r s₃=>wpAny (model X.prog X.w) X.A (storeName X.env x r) (fun _=>SP X pins D .next) X.xe s₃) X.xe s₂) X.xe s:=by
  refine thn (he pins s σ H _ I h) fun w s1 zy23=>?_;obtain⟨y,H1,I1,r1,q1⟩:=zy23;refine thn (ho pins s1 σ H1 v y u w _ I1 r r1 q1) fun z s2 zy24=>?_;obtain⟨zv,H2,I2,r2,q2⟩:=zy24;exact gL I2 hN hi hx r2 (fun s3 I3=>⟨_,H2,I3,q2⟩) hf
 rcases l with ⟨hk,hm⟩ | ⟨hk,c,hc,hcell⟩
 · exact wpAny_loadName_local I.ok.kind hk hn hm go
 · rcases hk with hk | hk
   · exact wpAny_loadName_cell I.ok.kind hk hc hcell go
   · rcases hx with k | k
     · have:X.env.scope.names.lookup x=some .free:=hk;rw[k] at this;cases this
     · have:X.env.scope.names.lookup x=some .free:=hk;rw[k] at this;cases this
def ipI (f:Int→Int→Int):TIp:=fun x y H Q=>∃ i j,x=.int i∧y=.int j∧Q (.int (f i j)) H
theorem qw:PIp X .Add (ipI fun i j=>i+j):=by
 intro pins s σ H x y v u Q I r1 r2 h;obtain⟨i,j,e1,e2,q⟩:=h;subst e1;subst e2;obtain⟨t,rfl⟩:=r1;obtain⟨t',rfl⟩:=r2;exact iadd_int ⟨.int _,H,I.tok _,⟨_,rfl⟩,q⟩
end
section
variable {X:Cx} {pos:Pos}
def oO (c:TT) (tb:TS):TS:=fun D σ H=>∃ W:Nat→St→Hp→Prop,(∃ m,W m σ H)∧∀ m σ H,W m σ H →
  c σ H fun b H1=>if b=true then ∃ N:St→Hp→Prop,(∀ σ' H',N σ' H'→∃ m',m'<m∧W m' σ' H')∧tb {D with nx:=N,ct:=N,bk:=D.nx} σ H1 else D.nx σ H1
theorem kx {c:Expr} {body:List Stmt} {tc:TT} {tb:TS} (hp:PassesOwn (model X.prog X.w) X.A X.env X.xe) (hc:PT X c tc) (hb:PSs X body tb):PS X (.While c body [] pos) (oO tc tb):=by
 intro pins s σ H D I h;obtain⟨W,⟨m0,w0⟩,turn⟩:=h;refine wpAny_While (codeAny_whileLoop (fun n s'=>∃ σ' H',Inv X pins σ' H' s'∧W n σ' H') ?_ m0 ⟨σ,H,I,w0⟩);rintro n s1 ⟨σ1,H1,I1,w1⟩;refine wpAny_passesOwn hp (thn (hc pins s1 σ1 H1 _ I1 (turn n σ1 H1 w1)) fun b s2 zy31=>?_);obtain⟨H2,I2,q2⟩:=zy31;cases b with
 | true =>
  obtain⟨N,hN,q2⟩:=q2;rw[if_pos rfl];refine wpAny_passesOwn hp (thn (hb pins s2 σ1 H2 _ I2 q2) fun f s3 q3=>?_);cases f with
  | next =>
   obtain⟨σ3,H3,I3,n3⟩:=q3;obtain⟨m',hm,w3⟩:=hN σ3 H3 n3;exact⟨m',hm,σ3,H3,I3,w3⟩
  | cont =>
   obtain⟨σ3,H3,I3,n3⟩:=q3;obtain⟨m',hm,w3⟩:=hN σ3 H3 n3;exact⟨m',hm,σ3,H3,I3,w3⟩
  | brk=>exact q3
  | ret v=>exact q3
 | false =>
  rw[if_neg Bool.false_ne_true];exact wpAny_execs_nil ⟨σ1,H2,I2,q2⟩
end
structure It where
  go:Nat→Hp→Prop
  yld:Nat→Hp→V→Hp→Prop
  stop:Nat→Hp→Prop
def ip (X:Cx) (pins:AOs) (H:Hp) (b:Addr):Prop :=
  H b=none∧b≠X.env.locals∧b∉X.fs∧(b∈X.ex∨X.s₀.heap.objs.size≤b)∧(∀ x c,X.env.cells.lookup x=some c→c≠b)∧∀ p∈X.pn++pins,p.1≠b
theorem Inv.fpOk {X:Cx} {pins:AOs} {σ:St} {H H':Hp} {s:Shared} {b:Addr} (I:Inv X pins σ H s) (hb:s.heap.objs.size≤b) (hn:H' b=none):ip X pins H' b:=by
 refine⟨hn,Nat.ne_of_gt (Nat.lt_of_lt_of_le I.lt hb),I.nofs hb,.inr (Nat.le_trans I.sz hb),fun x c e z=>?_,fun p hp z=>?_⟩
 · obtain⟨v,q⟩:=I.cell x c e;exact absurd (Nat.lt_of_lt_of_le q.lt (by rw[z];exact hb)) (Nat.lt_irrefl _)
 · exact absurd (Nat.lt_of_lt_of_le (Heap.lt_size (I.pin p hp).1) (by rw[z];exact hb)) (Nat.lt_irrefl _)
structure lQ (P:Program) (w:World) (K:Fg) (tg:Expr) (J:It) (fp:List Addr) (it:Addr) (tn:Nat→Heap→Prop):Prop where
  mem:it∈fp
  obj:∀ i h,tn i h→∀ b∈fp,∃ o,h.get? b=some o∧∀ v,o.data≠.cell v
  keep:∀ i h h',tn i h→(∀ b∈fp,∀ o,h.get? b=some o→h'.get? b=some o)→tn i h'
  item:∀ (X:Cx),X.prog=P→X.w=w→X.K=K→X.calm=true→∀ (i:Nat) (pins:AOs) (s:Shared) (σ:St) (H:Hp) (E:VSP),Inv X pins σ H s→(∀ b∈fp,ip X pins H b)→tn i s.heap→J.go i H →
    wpAny (model P w) X.A (pyNext (.ref it)) (fun r s1=>∃ u,r=some u ∧
      wpAny (model P w) X.A (letOwnedTupleGo tg (.ref it) u) (fun _ s2=>∃ x H',Inv X pins σ H' s2∧aM x u∧J.yld i H x H'∧tn (i+1) s2.heap∧∀ b∈fp,H' b=none) E s1) E s
  done:∀ (X:Cx),X.prog=P→X.w=w→X.K=K→X.calm=true→∀ (i:Nat) (pins:AOs) (s:Shared) (σ:St) (H:Hp) (E:VSP),Inv X pins σ H s→(∀ b∈fp,ip X pins H b)→tn i s.heap→J.stop i H →
    wpAny (model P w) X.A (pyNext (.ref it)) (fun r s1=>r=none∧Inv X pins σ H s1) E s
  self:∀ (A:Around) (i:Nat) (s:Shared) (Q:VSP) (E:VSP),tn i s.heap→Q (.ref it) s→wpAny (model P w) A (pyIter (.ref it)) Q E s
abbrev TI:=St→Hp→(It→Hp→Prop)→Prop
def PIE (X:Cx) (pins:AOs) (σ:St) (tg:Expr) (R:It→Hp→Prop) (itv:Value) (s2:Shared):Prop :=
  ∃ (it:Addr) (fp:List Addr) (tn:Nat→Heap→Prop) (J:It) (H':Hp),itv=.ref it∧Inv X pins σ H' s2∧lQ X.prog X.w X.K tg J fp it tn∧tn 0 s2.heap∧(∀ b∈fp,ip X pins H' b)∧R J H'
def PI (X:Cx) (tg iter:Expr) (wi:TI):Prop :=
  ∀ (pins:AOs) (s:Shared) (σ:St) (H:Hp) (R:It→Hp→Prop),Inv X pins σ H s→wi σ H R →
    wpAny (model X.prog X.w) X.A (eval iter X.env) (fun v s1=>wpAny (model X.prog X.w) X.A (pyIter v) (PIE X pins σ tg R) X.xe s1) X.xe s
theorem mJ {M:Model} {A:Around} {E:VSP} {s:Shared} {tg:Expr} {it:Addr} {u:Value} {o:Obj} {n:String} {vs:Array Value} {Q:Unit→Shared→Prop} (ho:s.heap.get? it=some o) (hc:o.cls=.type n) (hd:o.data=.fields vs)
 (hn:["enumerate","zip","dict_itemiterator","dict_reverseitemiterator","odict_iterator","itertools.zip_longest","itertools.pairwise"].contains n=false) (hQ:Q () s):wpAny M A (letOwnedTupleGo tg (.ref it) u) Q E s:=by
 unfold letOwnedTupleGo;cases tg <;> first
  | exact wP hQ
  | (cases u <;> first
      | exact wP hQ
      | (refine wB (wpAny_load ho ?_)
         rw[hc,hd];show wpAny M A (if (["enumerate","zip","dict_itemiterator","dict_reverseitemiterator","odict_iterator","itertools.zip_longest","itertools.pairwise"].contains n&&vs[0]?==some (rawInt _))=true then _ else _) Q E s;rw[if_neg (by intro h;rw[hn,Bool.false_and] at h;cases h)];exact wP hQ))
def Itl (K:Fg) (a:Addr):It :=
  ⟨fun i H=>∃ xs x,SqL K H a xs∧xs[i]?=some x,fun i H x H'=>H'=H∧∀ xs,SqL K H a xs→xs[i]?=some x,fun i H=>∃ xs,SqL K H a xs∧xs.length≤i⟩
def Itt (K:Fg) (a:Addr):It :=
  ⟨fun i H=>∃ xs x,SqT K H a xs∧xs[i]?=some x,fun i H x H'=>H'=H∧∀ xs,SqT K H a xs→xs[i]?=some x,fun i H=>∃ xs,SqT K H a xs∧xs.length≤i⟩
def Itr (lo:Int) (n:Nat):It:=⟨fun i _=>i<n,fun i H x H'=>H'=H∧x=.int (lo+i),fun i _=>n≤i⟩
theorem nn {P:Program} {w:World} {K:Fg} {tg:Expr} (a it:Addr):lQ P w K tg (Itl K a) [it] it (fun i h=>h.IsListIter it a i) where
 mem:=by simp
 obj:=fun i h st b hb=>by
  have e:b=it:=by simpa using hb
  subst e;obtain⟨o,e,c,d⟩:=st;exact⟨o,e,fun v z=>by rw[d] at z;cases z⟩
 keep:=fun i h h' st k=>st.at fun o e=>k it (by simp) o e
 item:=by
  intro X hP hw hK hc i pins s σ H E I hf st hg;subst hP hw hK;obtain⟨xs,x,hq,hx⟩:=hg;obtain⟨its,rv,p,hz⟩:=I.list hq;obtain⟨u,hu,ru⟩:=rv.get hx;obtain⟨f0,f1,f2,f3,f4,f5⟩:=hf it (by simp);refine wpAny_pyNext_list_item st p.isList (x:=u) (by simpa using hu) fun h' st' sb=>?_;have I1:Inv X pins σ H {s with heap:=h'}:=I.turned (t':=s.toks) (fun b o hb e=>(sb.2 b hb).trans e) f0 f1 f3 f4 f5;obtain⟨o,e,c,d⟩:=id st';exact⟨u,rfl,mJ (s:={s with heap:=h'}) e c d (by decide) ⟨x,H,I1,ru,⟨rfl,fun ys hy=>by rw[I.list_inj hy hq];exact hx⟩,st',fun b hb=>(hf b hb).1⟩⟩
 done:=by
  intro X hP hw hK hc i pins s σ H E I hf st hg;subst hP hw hK;obtain⟨xs,hq,hx⟩:=hg;obtain⟨its,rv,p,hz⟩:=I.list hq;obtain⟨f0,f1,f2,f3,f4,f5⟩:=hf it (by simp);have hl:=rv.length;exact wpAny_pyNext_list_end (I.ok.hd hc) st p.isList (by simp;lia) fun h' eb=>⟨rfl,I.turned (t':=s.toks) (fun b o hb e=>eb b o hb e) f0 f1 f3 f4 f5⟩
 self:=fun _ _ _ _ _ st h=>wpAny_pyIter_listiter st h
theorem l8 {P:Program} {w:World} {K:Fg} {tg:Expr} (a it:Addr):lQ P w K tg (Itt K a) [it] it (fun i h=>h.IsTupleIter it a i) where
 mem:=by simp
 obj:=fun i h st b hb=>by
  have e:b=it:=by simpa using hb
  subst e;obtain⟨o,e,c,d⟩:=st;exact⟨o,e,fun v z=>by rw[d] at z;cases z⟩
 keep:=fun i h h' st k=>st.at fun o e=>k it (by simp) o e
 item:=by
  intro X hP hw hK hc i pins s σ H E I hf st hg;subst hP hw hK;obtain⟨xs,x,hq,hx⟩:=hg;obtain⟨its,rv,p,hz⟩:=I.tuple hq;obtain⟨u,hu,ru⟩:=rv.get hx;obtain⟨f0,f1,f2,f3,f4,f5⟩:=hf it (by simp);refine wpAny_pyNext_tuple_item st (show s.heap.IsTuple a its.toArray from p) (x:=u) (by simpa using hu) fun h' st' sb=>?_;have I1:Inv X pins σ H {s with heap:=h'}:=I.turned (t':=s.toks) (fun b o hb e=>(sb.2 b hb).trans e) f0 f1 f3 f4 f5;obtain⟨o,e,c,d⟩:=id st';exact⟨u,rfl,mJ (s:={s with heap:=h'}) e c d (by decide) ⟨x,H,I1,ru,⟨rfl,fun ys hy=>by rw[I.tuple_inj hy hq];exact hx⟩,st',fun b hb=>(hf b hb).1⟩⟩
 done:=by
  intro X hP hw hK hc i pins s σ H E I hf st hg;subst hP hw hK;obtain⟨xs,hq,hx⟩:=hg;obtain⟨its,rv,p,hz⟩:=I.tuple hq;obtain⟨f0,f1,f2,f3,f4,f5⟩:=hf it (by simp);have hl:=rv.length;exact wpAny_pyNext_tuple_end (I.ok.hd hc) st (show s.heap.IsTuple a its.toArray from p) (by simp;lia) fun h' eb=>⟨rfl,I.turned (t':=s.toks) (fun b o hb e=>eb b o hb e) f0 f1 f3 f4 f5⟩
 self:=fun _ _ _ _ _ st h=>wpAny_pyIter_tupleiter st h
theorem l9 {P:Program} {w:World} {K:Fg} {tg:Expr} (it:Addr) (lo:Int) (n:Nat):lQ P w K tg (Itr lo n) [it] it (fun i h=>IsRangeIter h it (lo+(i:Nat)*1) ((n:Int)-(i:Nat)) 1) where
 mem:=by simp
 obj:=fun i h st b hb=>by
  have e:b=it:=by simpa using hb
  subst e;exact⟨_,st,fun v z=>by
    have z':Data.fields _=Data.cell v:=z;cases z'⟩
 keep:=fun i h h' st k=>k it (by simp) _ st
 item:=by
  intro X hP hw hK hc i pins s σ H E I hf st hg;subst hP hw hK;obtain⟨f0,f1,f2,f3,f4,f5⟩:=hf it (by simp);have W:=Walks.range (prog:=X.prog) (w:=X.w) (I.ok.hd hc) it lo 1 n;refine W.item i s _ _ hg st fun v h' tk hv st' kk=>?_;obtain⟨t,rfl⟩:=hv;have I1:Inv X pins σ H {s with heap:=h',toks:=tk}:=I.turned (fun b o hb e=>kk b o (by simpa using hb) e) f0 f1 f3 f4 f5;refine⟨_,rfl,mJ (s:={s with heap:=h',toks:=tk}) (n:="range_iterator") st' rfl rfl (by decide) ⟨.int (lo+i),H,I1,⟨t,?_⟩,⟨rfl,rfl⟩,st',fun b hb=>(hf b hb).1⟩⟩;rw[Int.mul_one]
 done:=by
  intro X hP hw hK hc i pins s σ H E I hf st hg;subst hP hw hK;obtain⟨f0,f1,f2,f3,f4,f5⟩:=hf it (by simp);exact wpAny_pyNext_range_end (I.ok.hd hc) st (by have:n≤i:=hg;lia) fun h' eb=>⟨rfl,I.turned (t':=s.toks) (fun b o hb e=>eb b o hb e) f0 f1 f3 f4 f5⟩
 self:=fun _ _ _ _ _ st h=>wpAny_pyIter_rangeiter st h
section
variable {X:Cx} {tg:Expr}
def u5 (K:Fg) (tl:TE):TI:=fun σ H R=>tl σ H fun x H1=>∃ a,x=.ref a∧(∃ xs,SqL K H1 a xs)∧R (Itl K a) H1
def BJ (K:Fg) (tl:TE):TI:=fun σ H R=>tl σ H fun x H1=>∃ a,x=.ref a∧(∃ xs,SqT K H1 a xs)∧R (Itt K a) H1
theorem bq {l:Expr} {tl:TE} (hl:PE X l tl):PI X tg l (u5 X.K tl):=by
 intro pins s σ H R I h;refine thn (hl pins s σ H _ I h) fun v s1 zy32=>?_;obtain⟨x,H1,I1,r1,q1⟩:=zy32;obtain⟨a,e,⟨xs,hq⟩,q⟩:=q1;subst e;cases r1;obtain⟨its,rv,p,hz⟩:=I1.list hq;refine wpAny_pyIter_list p.isList ?_;refine⟨s1.heap.objs.size,[s1.heap.objs.size],_,_,H1,rfl,I1.kept (t':=s1.toks) fun b o e=>hpS _ e,nn a _,⟨_,Heap.get?_push_size _ rfl,rfl,rfl⟩,fun b hb=>?_,q⟩;have e:b=s1.heap.objs.size:=by simpa using hb
 subst e;exact I1.fpOk (Nat.le_refl _) (I1.hok.fresh (Nat.le_refl _))
theorem fU {l:Expr} {tl:TE} (hl:PE X l tl):PI X tg l (BJ X.K tl):=by
 intro pins s σ H R I h;refine thn (hl pins s σ H _ I h) fun v s1 zy33=>?_;obtain⟨x,H1,I1,r1,q1⟩:=zy33;obtain⟨a,e,⟨xs,hq⟩,q⟩:=q1;subst e;cases r1;obtain⟨its,rv,p,hz⟩:=I1.tuple hq;refine wpAny_pyIter_tuple (show s1.heap.IsTuple a its.toArray from p) ?_;refine⟨s1.heap.objs.size,[s1.heap.objs.size],_,_,H1,rfl,I1.kept (t':=s1.toks) fun b o e=>hpS _ e,l8 a _,⟨_,Heap.get?_push_size _ rfl,rfl,rfl⟩,fun b hb=>?_,q⟩;have e:b=s1.heap.objs.size:=by simpa using hb
 subst e;exact I1.fpOk (Nat.le_refl _) (I1.hok.fresh (Nat.le_refl _))
theorem pR {pins:AOs} {σ:St} {H:Hp} {s:Shared} {R:It→Hp→Prop} {E:VSP} {lo hi:Int} {t u v:Tok} {tk:Nat} (I:Inv X pins σ H s) (h1:-(2 ^ 62)≤lo) (h2:lo<2 ^ 62) (h3:-(2 ^ 62)≤hi) (h4:hi<2 ^ 62)
 (q:R (Itr lo (hi-lo).toNat) H):wpAny (model X.prog X.w) X.A (pyIter (.ref s.heap.objs.size)) (PIE X pins σ tg R) E {s with heap:=s.heap.push {cls:=.type "range",data:=.fields #[.int lo t,.int hi u,.int 1 v]},toks:=tk}:=by
 refine wpAny_pyIter_range (IsRange.new ..) (small_one h1 h2 h3 h4) ?_;have I1:Inv X pins σ H {s with heap:=s.heap.push {cls:=.type "range",data:=.fields #[.int lo t,.int hi u,.int 1 v]},toks:=tk}:=I.kept fun b o e=>hpS _ e;refine⟨(s.heap.push {cls:=.type "range",data:=.fields #[.int lo t,.int hi u,.int 1 v]}).objs.size,[(s.heap.push {cls:=.type "range",data:=.fields #[.int lo t,.int hi u,.int 1 v]}).objs.size],_,_,H,rfl,
   I1.kept (t':=tk) fun b o e=>hpS _ e,l9 _ lo (hi-lo).toNat,?_,fun b hb=>?_,q⟩
 · have e1:lo+((0:Nat):Int)*1=lo:=by simp
   have e2:(((hi-lo).toNat:Nat):Int)-((0:Nat):Int)=Builtin.Range.rangeSize lo hi 1:=by rw[rangeSize_one];split <;> lia
   show IsRangeIter _ _ (lo+((0:Nat):Int)*1) ((((hi-lo).toNat:Nat):Int)-((0:Nat):Int)) 1;rw[e1,e2];exact Heap.get?_push_size _ rfl
 · have e:b=(s.heap.push {cls:=.type "range",data:=.fields #[.int lo t,.int hi u,.int 1 v]}).objs.size:=by simpa using hb
   subst e;exact I1.fpOk (Nat.le_refl _) (I1.hok.fresh (Nat.le_refl _))
def u4 (ta:TA):TI:=fun σ H R=>ta σ H fun vs H1=>∃ j:Int,vs=[.int j]∧-(2 ^ 62)≤j∧j<2 ^ 62∧R (Itr 0 j.toNat) H1
theorem bL {a:Expr} {ta:TA} {p pos:Pos} (hg:Gl X "range") (hm:X.mg "range"=none) (ha:PA X [a] ta) (hs:starEach [a] X.env=[(false,eval a X.env)]:=by rfl):PI X tg (.Call (.Name "range" p) [a] [] pos) (u4 ta):=by
 intro pins s σ H R I h;refine Call_ (dW I hg hm boot_range (PyProof.Rows.callWith_type1 (thn (ha pos pins s σ H _ I h) fun us s1 zy34=>?_) hs rfl));obtain⟨vs,H1,I1,r1,q1⟩:=zy34;obtain⟨j,e,q1,q2,q⟩:=q1;subst e;cases r1 with
 | cons r rr =>
  cases rr;obtain⟨t,rfl⟩:=r;exact call_range_1 (pR I1 (by lia) (by lia) q1 q2 (by simpa using q))
def xf (wi:TI) (g:TG) (tb:TS):TS:=fun D σ H=>wi σ H fun J H1=>∃ W:Nat→Nat→St→Hp→Prop,(∃ m,W 0 m σ H1)∧∀ i m σ H,W i m σ H →
  (J.stop i H∧D.nx σ H)∨(J.go i H∧∃ N:St→Hp→Prop,(∀ σ' H',N σ' H'→∃ m',m'<m∧W (i+1) m' σ' H')∧∀ x H',J.yld i H x H'→g x σ H' fun σ2 H2=>tb {D with nx:=N,ct:=N,bk:=D.nx} σ2 H2)
def gW (fp:List Addr) (h:Heap):AOs:=fp.filterMap fun b=>(h.get? b).map fun o=>(b,o)
theorem dv {fp:List Addr} {h:Heap} {b:Addr} {o:Obj} (hb:b∈fp) (e:h.get? b=some o):(b,o)∈gW fp h:=List.mem_filterMap.mpr ⟨b,hb,by rw[e];rfl⟩
theorem nK {fp:List Addr} {h:Heap} {p:Addr×Obj} (hp:p∈gW fp h):p.1∈fp∧h.get? p.1=some p.2:=by
 obtain⟨b,hb,e⟩:=List.mem_filterMap.mp hp;cases q:h.get? b with
 | none=>rw[q] at e;cases e
 | some o =>
  rw[q] at e;have e':(b,o)=p:=Option.some.inj e;subst e';exact⟨hb,q⟩
theorem Inv.pinned {pins:AOs} {σ:St} {H:Hp} {s:Shared} {fp:List Addr} (I:Inv X pins σ H s) (hf:∀ b∈fp,ip X pins H b) (ho:∀ b∈fp,∃ o,s.heap.get? b=some o∧∀ v,o.data≠.cell v):Inv X (pins++gW fp s.heap) σ H s :=
 I.pins_of fun p hp=>(mAp.mp hp).elim (fun z=>I.pin p (List.mem_append_right _ z)) fun z=>by
  obtain⟨hb,e⟩:=nK z;obtain⟨f0,f1,f2,_⟩:=hf p.1 hb;obtain⟨o,e',d⟩:=ho p.1 hb;rw[e] at e';cases e';exact⟨e,f0,f1,f2,d⟩
theorem Inv.unpinned {pins pl:AOs} {σ:St} {H:Hp} {s:Shared} (I:Inv X (pins++pl) σ H s):Inv X pins σ H s:=I.pins_of fun p hp=>I.pin p (List.mem_append_right _ (List.mem_append_left _ hp))
theorem bx {iter:Expr} {body:List Stmt} {wi:TI} {g:TG} {tb:TS} {pos:Pos} (hp:PassesOwn (model X.prog X.w) X.A X.env X.xe) (hc:X.calm=true) (hi:PI X tg iter wi) (hg:PG X tg g) (hb:PSs X body tb)
 (hs:∀ x,foldedSetIterable iter X.env x=pure x:=by intro _;rfl):PS X (.For tg iter body [] pos) (xf wi g tb):=by
 intro pins s σ H D I h;refine wpAny_For (thn (hi pins s σ H _ I h) fun v s1 h1=>thn h1 fun itv s2 h2=>?_) hs;obtain⟨it,fp,tn,J,H2,e,I2,T,st2,f2,W,⟨m0,w0⟩,turn⟩:=h2;subst e;have stat:∀ {H':Hp},(∀ b∈fp,H' b=none)→∀ b∈fp,ip X pins H' b:=fun hn b hb=>⟨hn b hb,(f2 b hb).2⟩;refine codeAny_forLoop_any (fun n s'=>∃ i σ' H',Inv X pins σ' H' s'∧tn i s'.heap∧(∀ b∈fp,H' b=none)∧W i n σ' H') ?_ m0 ⟨0,σ,H2,I2,st2,fun b hb=>(f2 b hb).1,w0⟩;rintro n s3 ⟨i,σ3,H3,I3,st3,fr3,w3⟩
 rcases turn i n σ3 H3 w3 with ⟨stop,qn⟩ | ⟨go,N,hN,step⟩
 · refine wpAny_passesOwn hp (thn (T.done X rfl rfl rfl hc i pins s3 σ3 H3 X.xe I3 (stat fr3) st3 stop) fun r s4 zy36=>?_);obtain⟨hr,I4⟩:=zy36;subst hr;exact wpAny_execs_nil ⟨σ3,H3,I4,qn⟩
 · refine wpAny_passesOwn hp (thn (T.item X rfl rfl rfl hc i pins s3 σ3 H3 X.xe I3 (stat fr3) st3 go) fun r s4 zy37=>?_);obtain⟨u,hr,h4⟩:=zy37;subst hr;refine wpAny_passesOwn hp (thn h4 fun _ s5 zy38=>?_);obtain⟨x,H5,I5,r5,y5,st5,fr5⟩:=zy38;have I5':=I5.pinned (stat fr5) (T.obj _ _ st5);refine wpAny_passesOwn hp (thn (hg _ s5 σ3 H5 x u _ I5' r5 (step x H5 y5)) fun _ s6 zy39=>?_);obtain⟨σ6,H6,I6,q6⟩:=zy39;refine wpAny_passesOwn hp (thn (hb _ s6 σ6 H6 _ I6 q6) fun f s7 q7=>?_);have again:∀ {σ7:St} {H7:Hp},Inv X (pins++gW fp s5.heap) σ7 H7 s7→N σ7 H7→∃ m,m<n∧∃ i σ' H',Inv X pins σ' H' s7∧tn i s7.heap∧(∀ b∈fp,H' b=none)∧W i m σ' H':=fun {σ7 H7} I7 n7=>by
    obtain⟨m',hm,w7⟩:=hN σ7 H7 n7;refine⟨m',hm,i+1,σ7,H7,I7.unpinned,T.keep _ _ _ st5 fun b hb o e=>(I7.pin (b,o) (List.mem_append_right _ (List.mem_append_right _ (dv hb e)))).1,fun b hb=>?_,w7⟩;obtain⟨o,e,d⟩:=T.obj _ _ st5 b hb;exact (I7.pin (b,o) (List.mem_append_right _ (List.mem_append_right _ (dv hb e)))).2.1
   cases f with
   | next=>obtain⟨σ7,H7,I7,n7⟩:=q7;exact again I7 n7
   | cont=>obtain⟨σ7,H7,I7,n7⟩:=q7;exact again I7 n7
   | brk=>obtain⟨σ7,H7,I7,q7⟩:=q7;exact⟨σ7,H7,I7.unpinned,q7⟩
   | ret v=>obtain⟨x7,σ7,H7,I7,r7,q7⟩:=q7;exact⟨x7,σ7,H7,I7.unpinned,r7,q7⟩
end
abbrev R2:=V→V→Hp→VK→Prop
def OpR (X:Cx) (f:Value→Value→Sem Value) (r:R2):Prop :=
  ∀ (pins:AOs) (s:Shared) (σ:St) (H:Hp) (x y:V) (v u:Value) (Q:VK),Inv X pins σ H s→aM x v→aM y u→r x y H Q →
    wpAny (model X.prog X.w) X.A (f v u) (EP X pins σ Q) X.xe s
def UnR (X:Cx) (f:Value→Sem Value) (r:V→Hp→VK→Prop):Prop :=
  ∀ (pins:AOs) (s:Shared) (σ:St) (H:Hp) (x:V) (v:Value) (Q:VK),Inv X pins σ H s→aM x v→r x H Q →
    wpAny (model X.prog X.w) X.A (f v) (EP X pins σ Q) X.xe s
def eL (X:Cx) (f:Value) (r:List V→Hp→VK→Prop):Prop :=
  ∀ (pins:AOs) (s:Shared) (σ:St) (H:Hp) (xs:List V) (us:List Value) (Q:VK),Inv X pins σ H s→aO xs us→r xs H Q →
    wpAny (model X.prog X.w) X.A (call f us) (EP X pins σ Q) X.xe s
def Cj (X:Cx) (r:V→Hp→(Bool→Hp→Prop)→Prop):Prop :=
  ∀ (pins:AOs) (s:Shared) (σ:St) (H:Hp) (x:V) (v:Value) (Q:Bool→Hp→Prop),Inv X pins σ H s→aM x v→r x H Q →
    wpAny (model X.prog X.w) X.A (truthy v) (TP X pins σ Q) X.xe s
def tOp (r:R2) (ta tb:TE):TE:=fun σ H Q=>ta σ H fun x H1=>tb σ H1 fun y H2=>r x y H2 Q
def tUn (r:V→Hp→VK→Prop) (ta:TE):TE:=fun σ H Q=>ta σ H fun x H1=>r x H1 Q
def rI (C:Int→Int→Prop) (g:Int→Int→V):R2:=fun x y H Q=>uQ x y H C g Q
def rI0 (g:Int→Int→V):R2:=fun x y H Q=>rB x y H g Q
def rU (g:Int→V):V→Hp→VK→Prop:=fun x H Q=>∃ i,x=.int i∧Q (g i) H
section
variable {X:Cx} {a b c:Expr} {ta tb tc:TE} {pos:Pos}
theorem wA (ha:PE X a ta) (hb:PE X b tb) {pins:AOs} {s:Shared} {σ:St} {H:Hp} {R:V→V→Hp→Prop} (I:Inv X pins σ H s)
 (h:ta σ H fun x H1=>tb σ H1 fun y H2=>R x y H2) {Q:VSP} {f:Value→Value→Sem Value}
 (hf:∀ v u s2 x y H2,Inv X pins σ H2 s2→aM x v→aM y u→R x y H2→wpAny (model X.prog X.w) X.A (f v u) Q X.xe s2) :
 wpAny (model X.prog X.w) X.A (eval a X.env) (fun v s₁=>wpAny (model X.prog X.w) X.A (eval b X.env) (fun u s₂=>wpAny (model X.prog X.w) X.A (f v u) Q X.xe s₂) X.xe s₁) X.xe s:=by
 refine thn (ha pins s σ H _ I h) fun v s1 zy41=>?_;obtain⟨x,H1,I1,r1,q1⟩:=zy41;refine thn (hb pins s1 σ H1 _ I1 q1) fun u s2 zy42=>?_;obtain⟨y,H2,I2,r2,q2⟩:=zy42;exact hf v u s2 x y H2 I2 r1 r2 q2
theorem aC {op:Operator} {r:R2} (ho:OpR X (binaryOp op) r) (ha:PE X a ta) (hb:PE X b tb):PE X (.BinOp a op b pos) (tOp r ta tb):=by
 intro pins s σ H Q I h;exact wpAny_BinOp (wA ha hb I h fun v u s2 x y H2 I2 rx ry q=>ho pins s2 σ H2 x y v u Q I2 rx ry q)
theorem kz {op:UnaryOp} {r:V→Hp→VK→Prop} (ho:UnR X (unaryOp op) r) (ha:PE X a ta):PE X (.UnaryOp op a pos) (tUn r ta):=by
 intro pins s σ H Q I h;refine UnaryOp_ (thn (ha pins s σ H _ I h) fun v s1 zy43=>?_);obtain⟨x,H1,I1,r1,q1⟩:=zy43;exact ho pins s1 σ H1 x v Q I1 r1 q1
theorem opI {f:Value→Value→Sem Value} {C:Int→Int→Prop} {g:Int→Int→Int}
 (rule:∀ (i j:Int) (t u:Tok) (s:Shared) (Q:VSP) (E:VSP),C i j→Q (.int (g i j) s.toks) {s with toks:=s.toks+1}→wpAny (model X.prog X.w) X.A (f (.int i t) (.int j u)) Q E s) :
 OpR X f (rI C fun i j=>.int (g i j)):=by
 intro pins s σ H x y v u Q I rx ry h;obtain⟨i,j,rfl,rfl,hc,q⟩:=h;obtain⟨t,rfl⟩:=rx;obtain⟨t',rfl⟩:=ry;exact rule i j t t' s _ _ hc ⟨.int (g i j),H,I.tok _,⟨_,rfl⟩,q⟩
theorem yL {f:Value→Value→Sem Value} {g:Int→Int→Int}
 (rule:∀ (i j:Int) (t u:Tok) (s:Shared) (Q:VSP) (E:VSP),Q (.int (g i j) s.toks) {s with toks:=s.toks+1}→wpAny (model X.prog X.w) X.A (f (.int i t) (.int j u)) Q E s) :
 OpR X f (rI0 fun i j=>.int (g i j)):=by
 intro pins s σ H x y v u Q I rx ry h;obtain⟨i,j,rfl,rfl,q⟩:=h;obtain⟨t,rfl⟩:=rx;obtain⟨t',rfl⟩:=ry;exact rule i j t t' s _ _ ⟨.int (g i j),H,I.tok _,⟨_,rfl⟩,q⟩
theorem vI {f:Value→Value→Sem Value} {g:Int→Int→Bool}
 (rule:∀ (i j:Int) (t u:Tok) (s:Shared) (Q:VSP) (E:VSP),Q (.bool (g i j)) s→wpAny (model X.prog X.w) X.A (f (.int i t) (.int j u)) Q E s) :
 OpR X f (rI0 fun i j=>.bl (g i j)):=by
 intro pins s σ H x y v u Q I rx ry h;obtain⟨i,j,rfl,rfl,q⟩:=h;obtain⟨t,rfl⟩:=rx;obtain⟨t',rfl⟩:=ry;exact rule i j t t' s _ _ ⟨.bl (g i j),H,I,rfl,q⟩
def Cq (i j:Int):Prop:=0<j∧j<1073741824
def Cp (i j:Int):Prop:=0≤j∧j≤1000000∧i.natAbs<2 ^ 64
def wK (i j:Int):Prop:=(-(2 ^ 64)<i∧i<2 ^ 64)∨(-(2 ^ 64)<j∧j<2 ^ 64)
theorem wK.ok {i j:Int} (h:wK i j):IntMulOk i j:=by
 rcases h with ⟨h1,h2⟩ | ⟨h1,h2⟩
 · exact .of_left (intBits_le_64 h1 h2)
 · exact .of_right (intBits_le_64 h1 h2)
theorem bY:OpR X (binaryOp .Add) (rI0 fun i j=>.int (i+j)):=yL fun _ _ _ _ _ _ _ q=>add_int q
theorem bX:OpR X (binaryOp .Sub) (rI0 fun i j=>.int (i-j)):=yL fun _ _ _ _ _ _ _ q=>sub_int q
theorem jq:OpR X (binaryOp .Mult) (rI wK fun i j=>.int (i*j)):=opI fun _ _ _ _ _ _ _ hc q=>mul_int q hc.ok
theorem jr:OpR X (binaryOp .FloorDiv) (rI Cq fun i j=>.int (i / j)):=opI fun i j _ _ _ _ _ hc q=>by
 have h1:(0:Int)<j:=hc.1;have h2:j<1073741824:=hc.2;exact floordiv_int (by lia) (by rw[Int.fdiv_eq_ediv_of_nonneg i (by lia)];exact q) (.inl (PyProof.noPylong_small (by lia)))
theorem dq:OpR X (binaryOp .Mod) (rI (fun _ j=>0<j) fun i j=>.int (i % j)):=opI fun i j _ _ _ _ _ hc q=>by
 have h1:(0:Int)<j:=hc;exact mod_int' (by lia) (by rw[Int.fmod_eq_emod_of_nonneg i (by lia)];exact q)
theorem qg:OpR X (binaryOp .Pow) (rI Cp fun i j=>.int (i ^ j.toNat)):=opI fun _ _ _ _ _ _ _ hc q=>pow_int_small hc.1 hc.2.1 hc.2.2 q
theorem unI {f:Value→Sem Value} {g:Int→Int}
 (rule:∀ (i:Int) (t:Tok) (s:Shared) (Q:VSP) (E:VSP),Q (.int (g i) s.toks) {s with toks:=s.toks+1}→wpAny (model X.prog X.w) X.A (f (.int i t)) Q E s) :
 UnR X f (rU fun i=>.int (g i)):=by
 intro pins s σ H x v Q I rx h;obtain⟨i,rfl,q⟩:=h;obtain⟨t,rfl⟩:=rx;exact rule i t s _ _ ⟨.int (g i),H,I.tok _,⟨_,rfl⟩,q⟩
theorem gH:UnR X (unaryOp .USub) (rU fun i=>.int (-i)):=unI fun _ _ _ _ _ q=>neg_int q
end
def su:V→V→Bool
  | .non,.non=>true | .non,.int _=>true | .int _,.non=>true | .non,.bl _=>true | .bl _,.non=>true | .non,.str _=>true | .str _,.non=>true
  | .int _,.int _=>true | .bl _,.bl _=>true | .str _,.str _=>true | .byt _,.byt _=>true
  | .int _,.str _=>true | .str _,.int _=>true | .bl _,.str _=>true | .str _,.bl _=>true
  | _,_=>false
def rEq:R2:=fun x y H Q=>su x y=true∧Q (.bl (decide (x=y))) H
def rNe:R2:=fun x y H Q=>su x y=true∧Q (.bl (!decide (x=y))) H
theorem mN {i j:Int}:decide (V.int i=V.int j)=(i==j):=by
 rw[Bool.eq_iff_iff];simp
theorem qL {i j:Bool}:decide (V.bl i=V.bl j)=(i==j):=by
 rw[Bool.eq_iff_iff];simp
theorem mM {i j:Str}:decide (V.str i=V.str j)=(i==j):=by
 rw[Bool.eq_iff_iff];simp
theorem mO {i j:Array UInt8}:decide (V.byt i=V.byt j)=(i.toList==j.toList):=by
 rw[Bool.eq_iff_iff];cases i;cases j;simp
section
variable {X:Cx} {a b c:Expr} {ta tb tc:TE} {pos:Pos}
theorem aW {pins:AOs} {σ:St} {H:Hp} {s:Shared} {Q:VK} {k k':Bool} (I:Inv X pins σ H s) (q:Q (.bl k) H) (e:k=k'):EP X pins σ Q (.bool k') s:=by
 subst e;exact⟨.bl k,H,I,rfl,q⟩
theorem aT:OpR X (compareOp .Eq) rEq:=by
 intro pins s σ H x y v u Q I rx ry h;obtain⟨hs,q⟩:=h;cases x with
 | non =>
  cases rx;cases y with
  | non=>cases ry;exact PySem.EqNone.eq_none_none (aW I q (by simp))
  | bl j=>cases ry;exact PySem.EqNone.eq_none_bool (aW I q (by simp))
  | int j=>obtain⟨t',rfl⟩:=ry;exact PySem.EqNone.eq_none_int (aW I q (by simp))
  | str j=>obtain⟨t',rfl⟩:=ry;exact PySem.EqNone.eq_none_str (aW I q (by simp))
  | _=>exact absurd (show false=true from hs) Bool.false_ne_true
 | bl i =>
  cases rx;cases y with
  | non=>cases ry;exact PySem.EqNone.eq_bool_none (aW I q (by simp))
  | bl j=>cases ry;exact eq_bool (aW I q qL)
  | str j=>obtain⟨t',rfl⟩:=ry;exact PySem.EqMixed.eq_bool_str (aW I q (by simp))
  | _=>exact absurd (show false=true from hs) Bool.false_ne_true
 | int i =>
  obtain⟨t,rfl⟩:=rx;cases y with
  | non=>cases ry;exact PySem.EqNone.eq_int_none (aW I q (by simp))
  | int j=>obtain⟨t',rfl⟩:=ry;exact eq_int (aW I q mN)
  | str j=>obtain⟨t',rfl⟩:=ry;exact PySem.EqMixed.eq_int_str (aW I q (by simp))
  | _=>exact absurd (show false=true from hs) Bool.false_ne_true
 | str i =>
  obtain⟨t,rfl⟩:=rx;cases y with
  | non=>cases ry;exact PySem.EqNone.eq_str_none (aW I q (by simp))
  | bl j=>cases ry;exact PySem.EqMixed.eq_str_bool (aW I q (by simp))
  | int j=>obtain⟨t',rfl⟩:=ry;exact PySem.EqMixed.eq_str_int (aW I q (by simp))
  | str j=>obtain⟨t',rfl⟩:=ry;exact eq_str (aW I q mM)
  | _=>exact absurd (show false=true from hs) Bool.false_ne_true
 | byt i =>
  obtain⟨t,rfl⟩:=rx;cases y with
  | byt j=>obtain⟨t',rfl⟩:=ry;exact PySem.W.eq_bytes (aW I q mO)
  | _=>exact absurd (show false=true from hs) Bool.false_ne_true
 | _=>cases y <;> exact absurd (show false=true from hs) Bool.false_ne_true
theorem yK:OpR X (compareOp .NotEq) rNe:=by
 intro pins s σ H x y v u Q I rx ry h;obtain⟨hs,q⟩:=h;cases x with
 | non =>
  cases rx;cases y with
  | non=>cases ry;exact PySem.EqNone.ne_none_none (aW I q (by simp))
  | bl j=>cases ry;exact PySem.EqNone.ne_none_bool (aW I q (by simp))
  | int j=>obtain⟨t',rfl⟩:=ry;exact PySem.EqNone.ne_none_int (aW I q (by simp))
  | str j=>obtain⟨t',rfl⟩:=ry;exact PySem.EqNone.ne_none_str (aW I q (by simp))
  | _=>exact absurd (show false=true from hs) Bool.false_ne_true
 | bl i =>
  cases rx;cases y with
  | non=>cases ry;exact PySem.EqNone.ne_bool_none (aW I q (by simp))
  | bl j=>cases ry;exact ne_bool (aW I q (congrArg not qL))
  | str j=>obtain⟨t',rfl⟩:=ry;exact PySem.EqMixed.ne_bool_str (aW I q (by simp))
  | _=>exact absurd (show false=true from hs) Bool.false_ne_true
 | int i =>
  obtain⟨t,rfl⟩:=rx;cases y with
  | non=>cases ry;exact PySem.EqNone.ne_int_none (aW I q (by simp))
  | int j=>obtain⟨t',rfl⟩:=ry;exact ne_int (aW I q (congrArg not mN))
  | str j=>obtain⟨t',rfl⟩:=ry;exact PySem.EqMixed.ne_int_str (aW I q (by simp))
  | _=>exact absurd (show false=true from hs) Bool.false_ne_true
 | str i =>
  obtain⟨t,rfl⟩:=rx;cases y with
  | non=>cases ry;exact PySem.EqNone.ne_str_none (aW I q (by simp))
  | bl j=>cases ry;exact PySem.EqMixed.ne_str_bool (aW I q (by simp))
  | int j=>obtain⟨t',rfl⟩:=ry;exact PySem.EqMixed.ne_str_int (aW I q (by simp))
  | str j=>obtain⟨t',rfl⟩:=ry;exact ne_str (aW I q (congrArg not mM))
  | _=>exact absurd (show false=true from hs) Bool.false_ne_true
 | byt i =>
  obtain⟨t,rfl⟩:=rx;cases y with
  | byt j=>obtain⟨t',rfl⟩:=ry;exact PySem.W.ne_bytes (aW I q (congrArg not mO))
  | _=>exact absurd (show false=true from hs) Bool.false_ne_true
 | _=>cases y <;> exact absurd (show false=true from hs) Bool.false_ne_true
theorem kE:OpR X (compareOp .Lt) (rI0 fun i j=>.bl (decide (i<j))):=vI fun _ _ _ _ _ _ _ q=>lt_int q
theorem iQ:OpR X (compareOp .Gt) (rI0 fun i j=>.bl (decide (j<i))):=vI fun _ _ _ _ _ _ _ q=>gt_int q
theorem tZ:OpR X (compareOp .GtE) (rI0 fun i j=>.bl (decide (j≤i))):=vI fun _ _ _ _ _ _ _ q=>ge_int q
theorem pP (b:Expr) {op:CmpOp} (h:op≠.In:=by decide) (h2:op≠.NotIn:=by decide):behindInMarks op b=false:=by
 have e1:(op==CmpOp.In)=false:=by cases op <;> first | rfl | exact absurd rfl h
 have e2:(op==CmpOp.NotIn)=false:=by cases op <;> first | rfl | exact absurd rfl h2
 cases b <;> simp[behindInMarks,e1,e2]
theorem mC {op:CmpOp} {r:R2} (ho:OpR X (compareOp op) r) (ha:PE X a ta) (hb:PE X b tb) (hm:behindInMarks op b=false):PE X (.Compare a [op] [b] pos) (tOp r ta tb):=by
 intro pins s σ H Q I h;exact wpAny_Compare1 (wA ha hb I h fun v u s2 x y H2 I2 rx ry q=>ho pins s2 σ H2 x y v u Q I2 rx ry q) hm
def me (t:TE):TT:=fun σ H Q=>t σ H fun x H'=>BlR x H' Q
theorem pO {op:CmpOp} {r:R2} (ho:OpR X (compareOp op) r) (ha:PE X a ta) (hb:PE X b tb) (hm:behindInMarks op b=false):PT X (.Compare a [op] [b] pos) (me (tOp r ta tb)):=by
 intro pins s σ H Q I h;refine wpAny_isTrue_Compare1 (thn (ha pins s σ H _ I h) fun v s1 zy44=>?_) hm;obtain⟨x,H1,I1,r1,q1⟩:=zy44;refine thn (hb pins s1 σ H1 _ I1 q1) fun u s2 zy45=>?_;obtain⟨y,H2,I2,r2,q2⟩:=zy45;refine thn (ho pins s2 σ H2 x y v u _ I2 r1 r2 q2) fun c s3 zy46=>?_;obtain⟨z,H3,I3,r3,k,e,q3⟩:=zy46;subst e;cases r3;exact wpAny_truthy_bool ⟨H3,I3,q3⟩
def vf (r r':R2) (ta tb tc:TE):TE:=fun σ H Q=>ta σ H fun x H1=>tb σ H1 fun y H2=>r x y H2 fun z H3=>∃ k,z=.bl k ∧
  (if k=true then tc σ H3 fun w' H4=>r' y w' H4 Q else Q (.bl false) H3)
def Av (K:Fg) (x:V) (H:Hp) (k:Bool):Prop :=
  match x with
  | .non=>k=false
  | .bl b=>k=b
  | .int i=>k=(i != 0)
  | .str y=>y.length≤sizeLine∧k=((y.length:Int) != 0)
  | .byt y=>y.size≤sizeLine∧k=((y.size:Int) != 0)
  | .ref p=>(∃ xs,SqL K H p xs∧k=!xs.isEmpty)∨(∃ xs,SqT K H p xs∧k=!xs.isEmpty)∨∃ kvs,H p=some (.dK kvs)∧k=!kvs.isEmpty
  | _=>False
theorem lD {κ:Type} {kvs:List (κ×V)} {vs:List (κ×Value)} (r:KV kvs vs):(!vs.isEmpty)=!kvs.isEmpty:=by
 cases r <;> rfl
theorem ie {xs:List V} {its:List Value} (r:aO xs its):(!its.toArray.isEmpty)=!xs.isEmpty:=by
 cases r <;> simp
theorem hV:(sizeLine:Nat)<2 ^ 63:=by rw[sizeLine_eq];decide
theorem uW:Cj X (fun x H Q=>∃ k,Av X.K x H k∧Q k H):=by
 intro pins s σ H x v Q I rx h;obtain⟨k,e,q⟩:=h;have hl:=hV;have hs:sizeLine=16777216:=sizeLine_eq;cases x with
 | non =>
  cases rx;have e':k=false:=e;subst e';exact truthy_none ⟨H,I,q⟩
 | bl b =>
  cases rx;have e':k=b:=e;subst e';exact wpAny_truthy_bool ⟨H,I,q⟩
 | int i =>
  obtain⟨t,rfl⟩:=rx;have e':k=(i != 0):=e;subst e';exact PySem.P.truthy_int ⟨H,I,q⟩
 | str y =>
  obtain⟨t,rfl⟩:=rx;obtain⟨hy,e'⟩:y.length≤sizeLine∧k=((y.length:Int) != 0):=e;subst e';exact PySem.P.truthy_str (by lia) ⟨H,I.tok _,q⟩
 | byt y =>
  obtain⟨t,rfl⟩:=rx;obtain⟨hy,e'⟩:y.size≤sizeLine∧k=((y.size:Int) != 0):=e;subst e';exact PySem.W.truthy_bytes (by lia) ⟨H,I.tok _,q⟩
 | ref p =>
  cases rx;have e':(∃ xs,SqL X.K H p xs∧k=!xs.isEmpty)∨(∃ xs,SqT X.K H p xs∧k=!xs.isEmpty)∨∃ kvs,H p=some (.dK kvs)∧k=!kvs.isEmpty:=e
  rcases e' with ⟨xs,hx,e'⟩ | ⟨xs,hx,e'⟩ | ⟨kvs,hx,e'⟩
  · subst e';obtain⟨its,r,pl,hz⟩:=I.list hx;have hlen:=r.length;exact wpAny_truthy_list pl.isList (by simp only[List.size_toArray];lia) ⟨H,I.tok _,by rw[ie r];exact q⟩
  · subst e';obtain⟨its,r,pl,hz⟩:=I.tuple hx;have hlen:=r.length;exact truthy_tuple pl (by simp only[List.size_toArray];lia) ⟨H,I.tok _,by rw[ie r];exact q⟩
  · subst e';obtain⟨hz,hS,vs,r,m⟩:kvs.length≤sizeLine∧(p==sysModules)=false∧∃ vs,KV kvs vs∧s.heap.DictOf (aw X.prog X.w) p vs:=I.hok p _ hx;have hlen:kvs.length=vs.length:=Paired.length r;exact wpAny_truthy_dict hS m (by lia) ⟨H,I.tok _,by rw[lD r];exact q⟩
 | _=>exact (show False from e).elim
theorem gT (ha:PE X a ta) (he:∀ whole,isTrue a X.env whole=(do let v ← whole;standAt a.pos;holding [v] (truthy v))) :
 PT X a (fun σ H Q=>ta σ H fun x H'=>∃ k,Av X.K x H' k∧Q k H'):=by
 intro pins s σ H Q I h;refine isTrue_plain (thn (ha pins s σ H _ I h) fun v s1 zy56=>?_) (he _);obtain⟨x,H1,I1,r1,q1⟩:=zy56;exact uW pins s1 σ H1 x v Q I1 r1 q1
theorem lq:OpR X (binaryOp .Add) (fun x y H Q=>∃ i j,x=.str i∧y=.str j∧i.length+j.length≤sizeLine∧Q (.str (i++j)) H):=by
 intro pins s σ H x y v u Q I rx ry h;obtain⟨i,j,rfl,rfl,hz,q⟩:=h;obtain⟨t,rfl⟩:=rx;obtain⟨t',rfl⟩:=ry;exact add_str (fun t' tk=>⟨.str (i++j),H,I.tok _,⟨_,rfl⟩,q⟩) hz
theorem iK {x:V} {us:List Value} (r:aO [x] us):∃ u,us=[u]∧aM x u:=by
 cases r with
 | cons r1 r2=>cases r2;exact⟨_,rfl,r1⟩
theorem jG:eL X (.type "str") (fun xs H Q=>∃ i,xs=[.int i]∧i.natAbs.log2<1920∧Q (.str (toString i)) H):=by
 intro pins s σ H xs us Q I r h;obtain⟨i,rfl,hz,q⟩:=h;obtain⟨u,rfl,t,rfl⟩:=iK r;exact PySem.P.str_of_int hz ⟨.str _,H,I.tok _,⟨_,rfl⟩,q⟩
end
structure wF (h:Heap) (x dx C:Addr) (mA:SOV):Prop where
  obj:h.get? x=some (PySem.W.instObj C dx)
  ns:h.Ns1 dx mA
  ne:dx≠x
theorem nP {h:Heap} {dx:Addr} {mA:SOV} (n:h.Ns1 dx mA):∃ od,h.get? dx=some od∧∀ name,PySem.W.lookIn name od=some (mA name):=by
 obtain⟨o,es,ep,ho,hd,hk,_,hm⟩:=n;refine⟨o,ho,fun name=>?_⟩;have e:=hm name;unfold nsFind findBy at e;rw[← Array.find?_toList] at e;unfold PySem.W.lookIn;rw[hd];dsimp only;split
 · rename_i y q
   rw[q] at e;exact congrArg some e
 · rename_i q
   rw[q] at e;have a:es.toList.any (·.refKey)=false:=by
    rw[List.any_eq_false];intro y hy;obtain⟨z,t,hkey⟩:=hk y (Array.mem_toList_iff.mp hy);simp[DictEntry.refKey,hkey]
   have a':¬ es.toList.any (·.refKey)=true:=by rw[a];exact Bool.false_ne_true
   rw[if_neg a'];exact congrArg some e
theorem wF.look {h:Heap} {x dx C:Addr} {mA:SOV} (I:wF h x dx C mA):∃ od,PySem.W.InstAt h x (PySem.W.instObj C dx) C (some od)∧∀ name,PySem.W.lookIn name od=some (mA name) :=
 let ⟨od,ho,hl⟩:=nP I.ns
 ⟨od,⟨I.obj,rfl,rfl,ho⟩,hl⟩
section
variable {prog:Program} {w:World} {A:Around} {E:VSP} {s:Shared} {K:Fg} {x dx C f:Addr} {mA:SOV} {name:Str} {v:Value}
end
theorem fN.some_of {v:V} {o:Option Value} (r:fN (some v) o):∃ u,o=some u∧aM v u:=by
 cases o with
 | none=>exact (show False from r).elim
 | some u=>exact⟨u,rfl,r⟩
section
variable {P:Program} {w:World} {H H':Hp} {h h':Heap} {a C dx:Addr} {fs fs':List (Str×V)}
theorem tm (hok:HOk P w H h) (e:H a=some (.ins C dx fs)):∃ mA,wF h a dx C mA∧(∀ f,fN (fs.lookup f) (mA f))∧PySem.Within mA (fs.map (·.1))∧fs.length≤1000∧H dx=some (.own a):=by
 obtain⟨d,z,ne,ob,mA,n,r,q⟩:=(show bb P w H h a (.ins C dx fs) from hok a _ e);exact⟨mA,⟨ob,n,ne⟩,r,q,z,d⟩
end
structure Cls (K:Fg) (C:Addr):Prop where
  pg:PySem.W.plainGet K C Str.empty=true
  hd:PySem.W.hasDictIn K C=true
  po:PySem.W.plainOver K C=true
  sa:PySem.W.findIn K (.ref C) "__setattr__"=some (some (.builtin "object.__setattr__"))
theorem Cls.get {K:Fg} {C:Addr} (c:Cls K C) (f:Str):PySem.W.plainGet K C f=true:=c.pg
section
variable {X:Cx} {pins:AOs} {σ:St} {H:Hp} {s:Shared} {a C dx:Addr} {fs:List (Str×V)} {f:Str} {v:V} {A:Around} {E:VSP}
end
section
variable {X:Cx} {o e value:Expr} {f:Str} {pos pos' tpos:Pos} {ta tv:TE}
end
section
variable {X:Cx} {pins:AOs} {σ:St} {H:Hp} {s:Shared} {A:Around} {E:VSP} {Q:VSP} {c:Value} {b:Bool}
inductive gy (K:Fg) (H:Hp):V→Value→Prop where
  | non:gy K H .non (.type "NoneType")
  | bl (x:Bool):gy K H (.bl x) (.type "bool")
  | int (i:Int):gy K H (.int i) (.type "int")
  | str (x:Str):gy K H (.str x) (.type "str")
  | flt (x:UInt64):gy K H (.flt x) (.type "float")
  | lst {a:Addr} {xs:List V} (e:H a=some (.lst xs)):gy K H (.ref a) (.type "list")
  | frz {a:Addr} {o:Obj} {xs:List V} (e:H a=some (.frz o (.lst xs))):gy K H (.ref a) (.type "list")
  | tup {a:Addr} {xs:List V} (e:H a=some (.tup xs)):gy K H (.ref a) (.type "tuple")
  | dK {a:Addr} {kvs:List (Key×V)} (e:H a=some (.dK kvs)):gy K H (.ref a) (.type "dict")
  | dT {a:Addr} {kvs:List (List Key×V)} (e:H a=some (.dT kvs)):gy K H (.ref a) (.type "dict")
  | ins {a C dx:Addr} {fs:List (Str×V)} (e:H a=some (.ins C dx fs)) (cl:Cls K C) (ha:PySem.W.findIn K (.ref C) "__class__"=some (some (.builtin "object.__class__")))
      (hn:PySem.W.specialIn K (.builtin "object.__class__") "__get__"=some (some (.builtin "getset_descriptor.__get__"))) (htk:PySem.W.takesIn K (.builtin "object.__class__")=some true)
      (hm:PySem.W.mroIn K C (.type "object")=some true):gy K H (.ref a) (.ref C)
theorem fY {x:V} {u t:Value} (I:Inv X pins σ H s) (rx:aM x u) (ty:gy X.K H x t) (e:PySem.W.kitOne X.K t c=some b) (h:∀ tk,Q (.bool b) {s with toks:=tk}) :
 wpAny (model X.prog X.w) A (call (.builtin "isinstance") [u,c]) Q E s:=by
 cases ty with
 | non=>cases (show u=Value.none from rx);exact PySem.W.kia_one PySem.W.kitx_none I.kIn True.intro e (fun z=>nomatch z) h
 | bl y=>cases (show u=Value.bool y from rx);exact PySem.W.kia_one PySem.W.kitx_bool I.kIn True.intro e (fun z=>nomatch z) h
 | int i=>obtain⟨t,q⟩:=(show ∃ t,u=Value.int i t from rx);cases q;exact PySem.W.kia_one PySem.W.kitx_int I.kIn True.intro e (fun z=>nomatch z) h
 | str y=>obtain⟨t,q⟩:=(show ∃ t,u=Value.str y t from rx);cases q;exact PySem.W.kia_one PySem.W.kitx_str I.kIn True.intro e (fun z=>nomatch z) h
 | flt y=>obtain⟨t,q⟩:=(show ∃ t,u=Value.float y t from rx);cases q;exact PySem.W.kia_one PySem.W.kitx_float I.kIn True.intro e (fun z=>nomatch z) h
 | @lst a xs ea =>
  cases (show u=Value.ref a from rx);obtain⟨_,_,n,_,h1⟩:=(show bb X.prog X.w H s.heap a (.lst xs) from I.hok a _ ea);exact PySem.W.kia_one PySem.W.kitx_list I.kIn ⟨_,h1,rfl⟩ e (fun z=>nomatch z) h
 | @frz a ob xs ea =>
  cases (show u=Value.ref a from rx);obtain⟨_,_,_,n,_,h1⟩:=(show bb X.prog X.w H s.heap a (.frz ob (.lst xs)) from I.hok a _ ea);exact PySem.W.kia_one PySem.W.kitx_list I.kIn ⟨_,h1,rfl⟩ e (fun z=>nomatch z) h
 | @tup a xs ea =>
  cases (show u=Value.ref a from rx);obtain⟨_,_,_,p⟩:=(show bb X.prog X.w H s.heap a (.tup xs) from I.hok a _ ea);obtain⟨o,h1,h2,_⟩:=p;exact PySem.W.kia_one PySem.W.kitx_tuple I.kIn ⟨o,h1,h2⟩ e (fun z=>nomatch z) h
 | @dK a kvs ea =>
  cases (show u=Value.ref a from rx);obtain⟨_,_,vs,_,p⟩:=(show bb X.prog X.w H s.heap a (.dK kvs) from I.hok a _ ea);obtain⟨o,es,ep,h1,h2,_⟩:=p;exact PySem.W.kia_one PySem.W.kitx_dict I.kIn ⟨o,h1,h2.1⟩ e (fun z=>nomatch z) h
 | @dT a kvs ea =>
  cases (show u=Value.ref a from rx);obtain⟨_,_,xs,_,o,es,ep,h1,h2,_⟩:=(show bb X.prog X.w H s.heap a (.dT kvs) from I.hok a _ ea);exact PySem.W.kia_one PySem.W.kitx_dict I.kIn ⟨o,h1,h2.1⟩ e (fun z=>nomatch z) h
 | @ins a C dx fs ea cl ha hn htk hm =>
  cases (show u=Value.ref a from rx);obtain⟨mA,O,_⟩:=tm I.hok ea;obtain⟨od,J,_⟩:=O.look;exact PySem.W.kia_one (PySem.W.kitx_own (cl.get _) cl.hd ha hn htk hm) I.kIn J e (fun z=>nomatch z) h
end
structure cV (k:Nat) (A:Around):Prop where
  hd:A.handled=none
  dp:A.depth+3*k+5<recursionLimit
  un:A.units+16*k+200<cLine
  gd:A.guards=some []
theorem cV.mono {j k:Nat} {A:Around} (r:cV k A) (h:j≤k):cV j A:=⟨r.hd,by have:=r.dp;lia,by have:=r.un;lia,r.gd⟩
theorem cV.deeper {k:Nat} {A:Around} (r:cV (k+1) A) (env:Env):cV k (A.deeper env) :=
 ⟨r.hd,by have:=r.dp;show A.depth+1+3*k+5<_;lia,by have:=r.un;show A.units+3+16*k+200<_;lia,r.gd⟩
theorem cV.depth {k:Nat} {A:Around} (r:cV k A):A.depth<recursionLimit:=by have:=r.dp;lia
theorem cV.units {k:Nat} {A:Around} (r:cV k A):A.units+64<cLine:=by have:=r.un;lia
def je:TA:=fun _ H Q=>Q [] H
def cR (ta:TE) (tr:TA):TA:=fun σ H Q=>ta σ H fun x H1=>tr σ H1 fun xs H2=>Q (x::xs) H2
section
variable {X:Cx} {e:Expr} {es:List Expr} {te:TE} {t:TA} {pos:Pos}
theorem pC:PA X [] je:=fun _ _ _ _ H Q I h=>Calls.spliced_nil ⟨[],H,I,.nil,h⟩
theorem pA (ha:PE X e te) (hr:PA X es t) (hs:starEach (e::es) X.env=(false,eval e X.env)::starEach es X.env:=by rfl):PA X (e::es) (cR te t):=by
 intro pos pins s σ H Q I h;rw[hs];show wpAny _ _ (spliced ((false,eval e X.env)::backTo pos (starEach es X.env))) _ _ s;refine Calls.spliced_cons (thn (ha pins s σ H _ I h) fun u s1 zy65=>?_);obtain⟨x,H1,I1,r1,q1⟩:=zy65;refine thn (hr pos pins s1 σ H1 _ I1 q1) fun us s2 zy66=>?_;obtain⟨xs,H2,I2,r2,q2⟩:=zy66;exact⟨x::xs,H2,I2,.cons r1 r2,q2⟩
def uZ (t:TA):TE:=fun σ H Q=>t σ H fun xs H1=>xs.length≤sizeLine∧∀ p,H1 p=none→Q (.ref p) (upd H1 p (.tup xs))
def wX (t:TA):TE:=fun σ H Q=>t σ H fun xs H1=>xs.length≤sizeLine∧∀ p,H1 p=none→Q (.ref p) (upd H1 p (.lst xs))
theorem az {x1} (h:PA X es t):PE X (.Tuple es x1 pos) (uZ t):=by
 intro pins s σ H Q I hq;refine wpAny_Tuple_spliced (thn (h pos pins s σ H _ I hq) fun us s1 ⟨xs,H1,I1,r,z,q⟩=>⟨by rw[← r.length];exact z,?_⟩);have hf:H1 s1.heap.objs.size=none:=I1.hok.fresh (Nat.le_refl _);refine⟨.ref s1.heap.objs.size,upd H1 s1.heap.objs.size (.tup xs),I1.laid (t':=s1.toks) (fun b u e=>hpS _ e) (Nat.le_refl _) ?_,rfl,q _ hf⟩;exact⟨z,us,r,⟨_,Heap.get?_push_size _ rfl,rfl,_,rfl⟩⟩
theorem ag (h:PA X es t):PE X (.List es pos) (wX t):=by
 intro pins s σ H Q I hq;refine wpAny_List_spliced (thn (h pos pins s σ H _ I hq) fun us s1 ⟨xs,H1,I1,r,z,q⟩=>⟨by rw[← r.length];exact z,?_⟩);have hf:H1 s1.heap.objs.size=none:=I1.hok.fresh (Nat.le_refl _);refine⟨.ref s1.heap.objs.size,upd H1 s1.heap.objs.size (.lst xs),I1.laid (t':=s1.toks) (fun b u e=>hpS _ e) (Nat.le_refl _) ?_,rfl,q _ hf⟩;exact⟨z,us,0,r,Heap.get?_push_size _ rfl⟩
end
abbrev Sp:=List V→Hp→VK→XK→Prop
abbrev CXT:=List Env→Hp→Shared→XK→Value→Shared→Prop
structure tN (P:Program) (w:World) (K:Fg) (mg:SOV) (base:Heap) (A:Around) (outer:List Env) (s:Shared) (H:Hp):Prop where
  frames:A.frames=some outer
  mod:Mod K mg base
  bs:∀ b o,base.get? b=some o→s.heap.get? b=some o∧H b=none
  bsz:base.objs.size≤s.heap.objs.size
  funs:s.heap.FunFrames base outer
  frf:∀ b∈frs outer,H b=none
  hok:HOk P w H s.heap
  bare:AllBare s.gens
def CE (outer:List Env) (P:Program) (w:World) (H:Hp) (s:Shared) (Q:VK) (u:Value) (s':Shared):Prop :=
  ∃ v H',s'.os=s.os∧AllBare s'.gens∧Un (frs outer) [] H H' s.heap s'.heap∧HOk P w H' s'.heap∧aM v u∧Q v H'
def CR (CX:CXT) (outer:List Env) (P:Program) (w:World) (H:Hp) (s:Shared) (Q:VK) (E:XK) (r:Result) (s':Shared):Prop :=
  match r with
  | .ok (.ret u)=>CE outer P w H s Q u s'
  | .ok _=>False
  | .error e=>CX outer H s E e s'
structure iG (P:Program) (w:World) (K:Fg) (mg:SOV) (base:Heap) (CX:CXT) (k:Nat) (f:Addr) (fd:FuncData) (ps:List Str) (sp:Sp):Prop where
  len:∀ vs H Q E,sp vs H Q E→vs.length=ps.length
  run:∀ (A:Around) (outer:List Env) (s:Shared) (H:Hp) (args:Args) (us:List Value) (vs:List V) (Q:VK) (E:XK),cV k A→tN P w K mg base A outer s H→BindsTo s fd args (ps.zip us)→aO vs us→sp vs H Q E →
    codeAny (model P w) A (.call (.ref f) args) (CR CX outer P w H s Q E) s
section
variable {X:Cx} {pins:AOs} {σ:St} {H:Hp} {s s':Shared}
theorem Inv.env0 (I:Inv X pins σ H s):tN X.prog X.w X.K X.mg X.base X.A X.stack s H :=
 ⟨I.ok.frames,I.ok.mod,I.bs,Nat.le_trans I.ok.bsz I.sz,I.stack,I.stkFree,I.hok,I.bare⟩
theorem Inv.after {Q:VK} {u:Value} (I:Inv X pins σ H s) (h:CE X.stack X.prog X.w H s Q u s'):EP X pins σ Q u s':=by
 obtain⟨v,H',os,bare,un,hok,r,q⟩:=h;obtain⟨hh,g,d,t,os'⟩:=s';obtain rfl:os'=s.os:=os;exact⟨v,H',I.call (h':=hh) (g':=g) (d':=d) (t':=t) (ch:=[]) un hok bare (fun b z=>absurd z (by simp)),r,q⟩
end
def gJ (sp:Sp) (dvs:List V) (E:XK) (t:TA):TE:=fun σ H Q=>t σ H fun vs H1=>sp (vs++dvs) H1 Q E
def jc (K:Fg) (fd:FuncData) (ps:List Str) (ds:List Value):Prop :=
  ∀ (s:Shared) (us:List Value),K.In s.heap→(us++ds).length=ps.length→BindsTo s fd ⟨us,[]⟩ (ps.zip (us++ds))
theorem jc.all {K:Fg} {fd:FuncData} {ps:List Str} (h:∀ us:List Value,us.length=ps.length→bindArgs fd ⟨us,[]⟩=pure (ps.zip us)):jc K fd ps []:=fun s us _ hl=>by
 rw[List.append_nil] at hl ⊢;exact .of_eq (h us hl)
def lR (CX:CXT) (X:Cx) (E:XK):Prop:=∀ (pins:AOs) (σ:St) (H:Hp) (s:Shared) (e:Value) (s':Shared),Inv X pins σ H s→CX X.stack H s E e s'→X.xe e s'
section
variable {X:Cx} {CX:CXT} {k:Nat} {f C:Addr} {fd:FuncData} {ps:List Str} {sp:Sp} {dvs:List V} {ds:List Value} {E:XK} {x m:Str} {p pos apos:Pos} {e o:Expr} {es:List Expr} {ta:TE} {t:TA}
theorem vq {pins:AOs} {σ:St} {H:Hp} {s:Shared} {Q:VK} {us:List Value} {vs:List V} (F:iG X.prog X.w X.K X.mg X.base CX k f fd ps sp) (hr:cV k X.A) (hb:jc X.K fd ps ds) (hd:aO dvs ds) (hx:lR CX X E)
 (I:Inv X pins σ H s) (r:aO vs us) (h:sp (vs++dvs) H Q E):wpAny (model X.prog X.w) X.A (call (.ref f) us) (EP X pins σ Q) X.xe s:=by
 have r2:aO (vs++dvs) (us++ds):=r.append hd;have hl:(us++ds).length=ps.length:=by rw[← r2.length];exact F.len _ _ _ _ h
 refine wpAny_call (codeAny_mono (F.run X.A X.stack s H ⟨us,[]⟩ (us++ds) (vs++dvs) Q E hr I.env0 (hb s us I.kIn hl) r2 h) fun r s' hq=>?_);cases r with
 | error e=>exact hx pins σ H s e s' I hq
 | ok fl =>
  cases fl with
  | ret u=>exact I.after hq
  | next=>exact False.elim hq
  | brk=>exact False.elim hq
  | cont=>exact False.elim hq
theorem sI (F:iG X.prog X.w X.K X.mg X.base CX k f fd ps sp) (hr:cV k X.A) (hg:Gl X x) (hm:X.mg x=some (.ref f)) (hk:PySem.W.keepIn X.K (.ref f)=true) (hb:jc X.K fd ps ds) (hd:aO dvs ds) (hx:lR CX X E)
 (ha:PA X (e::es) t) (hdb:(x==("__debug__":Str))=false:=by decide) (he:starEach (e::es) X.env=(false,eval e X.env)::starEach es X.env:=by rfl) (hpl:(backTo pos (starEach es X.env)).any (·.1)=false:=by rfl) :
 PE X (.Call (.Name x p) (e::es) [] pos) (gJ sp dvs E t):=by
 intro pins s σ H Q I h;refine wpAny_Call_Name_kw (mE I hg hm ?_ hdb);refine PySem.W.callWith_K (h₀:=X.base) I.ok.mod.kin hk (thn (ha pos pins s σ H _ I h) fun us s1 zy67=>?_) he hpl;obtain⟨vs,H1,I1,r,q⟩:=zy67;refine⟨I1.kIn,?_⟩;exact vq F hr hb hd hx I1 r q
end
section
variable {X:Cx} {CX:CXT} {k:Nat} {f C:Addr} {fd:FuncData} {ps ks:List Str} {sp:Sp} {E:XK} {x m:Str} {p pos apos kpos:Pos} {e o:Expr} {es:List Expr} {kws:List Keyword} {te ta:TE} {t tk:TA} {nm:Option Str}
variable {g:List Value→List Value→List Value} {gV:List V→List V→List V}
end
structure ax (N P:List Str) (sc:Scope):Prop where
  kind:sc.kind=.function
  co:sc.isCoroutine=false
  gen:sc.isGenerator=false
  nd:N.Nodup
  pre:N.take P.length=P
  par:∀ x∈P,sc.names.lookup x=some .local∨sc.names.lookup x=some .cell
  nofree:∀ y∈sc.names,y.2≠.free
theorem fsM {N P:List Str} {sc:Scope} (a:sc.kind=.function:=by rfl) (b:sc.isCoroutine=false:=by rfl) (c:sc.isGenerator=false:=by rfl) (d:N.Nodup:=by decide +kernel) (e:N.take P.length=P:=by rfl) (f:∀ x∈P,sc.names.lookup x=some .local∨sc.names.lookup x=some .cell:=by decide +kernel) (g:∀ y∈sc.names,y.2≠.free:=by decide +kernel):ax N P sc:=⟨a,b,c,d,e,f,g⟩
theorem j0 {kindOf:Str→Option NameKind} {x:Str}:∀ {binds:List (Str×Value)} {m:SOV},(∀ v,(x,v)∉binds)→bindL kindOf binds m x=m x
 | [],_,_=>rfl
 | (n,v)::r,m,h=>by
  unfold bindL;rw[j0 fun w hw=>h w (mCM _ hw)];split
  · have:x≠n:=by rintro rfl;exact h v mCS
    simp[this]
  · rfl
theorem j7 {kindOf:Str→Option NameKind} {x:Str}:∀ {binds:List (Str×Value)} {m:SOV},(∀ v,(x,v)∉binds)→bindC kindOf binds m x=m x
 | [],_,_=>rfl
 | (n,v)::r,m,h=>by
  unfold bindC;rw[j7 fun w hw=>h w (mCM _ hw)];split
  · rfl
  · have:x≠n:=by rintro rfl;exact h v mCS
    simp[this]
theorem j5 {kindOf:Str→Option NameKind} {x:Str} {v:Value}:∀ {P:List Str} {vs:List Value} {i:Nat} {m:SOV},P.Nodup→P[i]?=some x→vs[i]?=some v→kindOf x=some .local →
 bindL kindOf (P.zip vs) m x=some v
 | [],_,_,_,_,h,_,_=>by simp at h
 | _::_,[],_,_,_,_,h,_=>by simp at h
 | p::P,w::vs,0,m,nd,h1,h2,hk=>by
  simp at h1 h2;subst h1;subst h2;show bindL kindOf ((p,w)::P.zip vs) m p=_;unfold bindL;rw[j0 fun v hv=>(List.nodup_cons.mp nd).1 (List.of_mem_zip hv).1,if_pos hk];simp
 | p::P,w::vs,i+1,m,nd,h1,h2,hk=>by
  show bindL kindOf ((p,w)::P.zip vs) m x=_;unfold bindL;exact j5 (i:=i) (List.nodup_cons.mp nd).2 (by simpa using h1) (by simpa using h2) hk
theorem j9 {kindOf:Str→Option NameKind} {x:Str} {v:Value}:∀ {P:List Str} {vs:List Value} {i:Nat} {m:SOV},P.Nodup→P[i]?=some x→vs[i]?=some v→kindOf x≠some .local →
 bindC kindOf (P.zip vs) m x=some v
 | [],_,_,_,_,h,_,_=>by simp at h
 | _::_,[],_,_,_,_,h,_=>by simp at h
 | p::P,w::vs,0,m,nd,h1,h2,hk=>by
  simp at h1 h2;subst h1;subst h2;show bindC kindOf ((p,w)::P.zip vs) m p=_;unfold bindC;rw[j7 fun v hv=>(List.nodup_cons.mp nd).1 (List.of_mem_zip hv).1,if_neg hk];simp
 | p::P,w::vs,i+1,m,nd,h1,h2,hk=>by
  show bindC kindOf ((p,w)::P.zip vs) m x=_;unfold bindC;exact j9 (i:=i) (List.nodup_cons.mp nd).2 (by simpa using h1) (by simpa using h2) hk
def eD (N:List Str) (vs:List V):St:=vs.map some++List.replicate (N.length-vs.length) none
def cE (CX:CXT) (P:Program) (w:World) (K:Fg) (mg:SOV) (base:Heap) (N:List Str) (qual:Str) (scope:Scope) (f:Addr) (cd:Value) (A:Around) (outer:List Env) (s:Shared) (H:Hp) (E:XK):Cx where
  prog:=P
  w:=w
  K:=K
  mg:=mg
  base:=base
  A:=A.deeper (envOfC qual scope s.heap.objs.size f cd)
  N:=N
  s₀:=s
  H₀:=H
  env:=envOfC qual scope s.heap.objs.size f cd
  outer:=outer
  stack:=envOfC qual scope s.heap.objs.size f cd::outer
  ex:=[]
  calm:=true
  fn:=fun _=>true
  pn:=[]
  xe:=fun e s'=>wpAny (model P w) (A.deeper (envOfC qual scope s.heap.objs.size f cd)) (leaving (envOfC qual scope s.heap.objs.size f cd) e) (fun _ s''=>CX outer H s E e s'') (fun e' s''=>CX outer H s E e' s'') s'
theorem kR {sc:Scope} {n:Nat} {x:Str} (h:sc.names.lookup x=some .cell):∃ c,(cellsFrom n sc.names []).lookup x=some c:=by
 have q:=PySem.W.cellsFrom_some sc.names n [] (.inl h);exact Option.isSome_iff_exists.mp q
theorem nZ {CX:CXT} {P:Program} {w:World} {K:Fg} {mg:SOV} {base:Heap} {N ps:List Str} {qual:Str} {scope:Scope} {f:Addr} {cd:Value} {A:Around} {outer:List Env} {s s1:Shared} {H:Hp} {E:XK} {us:List Value} {vs:List V}
 (S:ax N ps scope) (hd:A.handled=none) (e0:tN P w K mg base A outer s H) (hl:vs.length=ps.length) (r:aO vs us)
 (x:InCallC s s.heap.objs.size (bindL (envOfC qual scope s.heap.objs.size f cd).kindOf (ps.zip us) fun _=>none) (cellsFrom (s.heap.objs.size+1) scope.names []) (bindC (envOfC qual scope s.heap.objs.size f cd).kindOf (ps.zip us) fun _=>none) s1) :
 Inv (cE CX P w K mg base N qual scope f cd A outer s H E) [] (eD N vs) H s1:=by
 have hpl:ps.length≤N.length:=by have:=congrArg List.length S.pre;rw[lTk] at this;lia
 obtain⟨h1,tk,rfl,hk⟩:=x.done;have noA:∀ b:Addr,b∉(cE CX P w K mg base N qual scope f cd A outer s H E).ex:=fun b z=>absurd (show b∈([]:List Addr) from z) (by simp);refine⟨⟨e0.mod,S.kind,rfl,rfl,Nat.le_refl _,fun y z c h1 h2=>?_,fun y hy=>?_,fun y c _ h=>?_,fun _=>hd,Around.frames_deeper e0.frames,.inr ⟨rfl,rfl⟩,fun b z=>absurd z (noA b),e0.bs,e0.bsz,fun b _ _=>noA b,fun b z=>absurd z (noA b),e0.funs,e0.frf⟩,
   rfl,e0.bare,Un.kept hk,⟨_,x.toInCall.ns,fun i y v h1 h2 h3=>?_⟩,fun y c h=>⟨_,x.cell y c h⟩,e0.hok.fresh (Nat.le_refl _),fun y c h=>?_,fun p hp=>absurd (show p∈([]:AOs) from hp) (by simp),e0.hok.kept hk,?_⟩
 · exact name_of_addr x.apart (PySem.mem_of_lookup h1) (PySem.mem_of_lookup h2)
 · have hy:scope.names.lookup y=some .cell∨scope.names.lookup y=some .free:=hy
   rcases hy with hy | hy
   · exact kR hy
   · exact absurd rfl (S.nofree _ (PySem.mem_of_lookup hy))
 · exact Nat.le_of_lt (x.above y c (PySem.mem_of_lookup h))
 · have hi:i<vs.length:=by
    unfold eD at h2;by_cases hi:i<vs.length
    · exact hi
    · rw[List.getElem?_append_right (by simpa using hi)] at h2;rw[List.getElem?_replicate] at h2;split at h2 <;> cases h2
   have ha:vs[i]?=some v:=by
    unfold eD at h2;rw[List.getElem?_append_left (by simpa using hi),gEM] at h2;cases e:vs[i]? with
    | none=>rw[e] at h2;cases h2
    | some a=>rw[e] at h2;cases h2;rfl
   obtain⟨u,hu,rv⟩:=r.get ha;have hp:ps[i]?=some y:=by
    rw[← S.pre,List.getElem?_take_of_lt (by lia)];exact h1
   have ndP:ps.Nodup:=by rw[← S.pre];exact S.nd.sublist (List.take_sublist _ _)
   refine⟨u,rv,?_⟩
   rcases S.par y (mGE hp) with k | k
   · exact .inl ⟨k,j5 ndP hp hu k⟩
   · obtain⟨c,e⟩:=kR (n:=s.heap.objs.size+1) k;refine .inr ⟨.inl k,c,e,?_⟩;have q:=x.cell y c e;rw[j9 ndP hp hu (by show scope.names.lookup y≠_;rw[k];decide)] at q;exact q
 · exact e0.hok.fresh (Nat.le_of_lt (x.above y c (PySem.mem_of_lookup h)))
 · unfold eD;show _=N.length;rw[lAp,lMp,List.length_replicate];lia
theorem Ao {CX:CXT} {P:Program} {w:World} {K:Fg} {mg:SOV} {base:Heap} {k:Nat} {f:Addr} {name qual:Str} {params:Arguments} {body:List Stmt} {scope:Scope} {dV kV doc pm cdv ct oc:Value} {an od:Option Addr}
 {osl:Array (Option Value)} {N ps:List Str} {sp:Sp} (lk:K.lookup f=some ⟨oc,od,.func (PySem.W.fnOf name qual params body scope dV kV doc pm an cdv ct),osl⟩) (hcd:PySem.W.codeIn K cdv qual=true) (S:ax N ps scope)
 (len:∀ vs H Q E,sp vs H Q E→vs.length=ps.length)
 (hbody:∀ (A:Around) (outer:List Env) (s:Shared) (H:Hp) (vs:List V) (Q:VK) (E:XK),cV k (A.deeper (envOfC qual scope s.heap.objs.size f cdv))→sp vs H Q E →
   ∃ t,PSs (cE CX P w K mg base N qual scope f cdv A outer s H E) body t∧t {nx:=fun _ H'=>Q .non H',rt:=Q} (eD N vs) H) :
 iG P w K mg base CX (k+1) f (PySem.W.fnOf name qual params body scope dV kV doc pm an cdv ct) ps sp:=by
 refine⟨len,fun A outer s H args us vs Q E hr e0 hb r hsp=>?_⟩;have hl:=len _ _ _ _ hsp;have KX:K.In s.heap:=e0.mod.kin.keeps fun b o e=>(e0.bs b o e).1;have lim:s.heap.NoLimit:=e0.mod.nolimit.keeps fun b o e=>(e0.bs b o e).1;have hkind:∀ y∈ps.zip us,scope.names.lookup y.1=some .local∨(scope.names.lookup y.1=some .cell∧((cellsFrom (s.heap.objs.size+1) scope.names []).lookup y.1).isSome=true):=fun ⟨n,v⟩ hy=>by
  rcases S.par n (List.of_mem_zip hy).1 with q | q
  · exact .inl q
  · exact .inr ⟨q,PySem.W.cellsFrom_some _ _ _ (.inl q)⟩
 refine codeAny_call_function hr.depth (KX _ _ lk) rfl S.co S.gen rfl (PySem.W.codeRec_of KX hcd) (hb _ _ _ _ ?_);refine wpAny_newFunctionEnv_cells S.kind hkind fun env he s1 x=>?_;subst he;refine⟨lim.keeps x.toInCall.keep,codeAny_func ?_⟩;obtain⟨t,ht,hq⟩:=hbody A outer s H vs Q E (hr.deeper _) hsp;have I:Inv (cE CX P w K mg base N qual scope f cdv A outer s H E) [] (eD N vs) H s1:=nZ S hr.hd e0 hl r x;refine wpAny_mono (ht [] s1 (eD N vs) H _ I hq) (fun fl s' hs=>?_) fun e s' hs=>hs;have fin:∀ {σ':St} {H':Hp} {v:V} {u:Value},Inv (cE CX P w K mg base N qual scope f cdv A outer s H E) [] σ' H' s'→aM v u→Q v H'→CE outer P w H s Q u s' :=
  fun {σ' H' v u} J rv q=>⟨v,H',J.os,J.bare,J.base,J.hok,rv,q⟩
 cases fl with
 | ret u =>
  obtain⟨v,σ',H',J,rv,q⟩:=hs;exact fin J rv q
 | next =>
  obtain⟨σ',H',J,q⟩:=hs;exact fin (v:=V.non) (u:=Value.none) J rfl q
 | brk =>
  obtain⟨_,_,_,q⟩:=hs;exact False.elim q
 | cont =>
  obtain⟨_,_,_,q⟩:=hs;exact False.elim q
section
variable {X:Cx} {x:Str} {p pos:Pos} {e:Expr} {es:List Expr} {t:TA} {id T:String} {r:List V→Hp→VK→Prop}
def tCB (r:List V→Hp→VK→Prop) (t:TA):TE:=fun σ H Q=>t σ H fun vs H1=>r vs H1 Q
theorem fB (hc:eL X (.builtin id) r) (hg:Gl X x) (hm:X.mg x=none) (hv:bootBuiltins x=some (.builtin id)) (ha:PA X (e::es) t) (hn:x≠"__name__":=by decide) (hdb:(x==("__debug__":Str))=false:=by decide)
 (he:starEach (e::es) X.env=(false,eval e X.env)::starEach es X.env:=by rfl) (hpl:(backTo pos (starEach es X.env)).any (·.1)=false:=by rfl):PE X (.Call (.Name x p) (e::es) [] pos) (tCB r t):=by
 intro pins s σ H Q I h;refine wpAny_Call_Name_kw (dW I hg hm hv ?_ hn hdb);refine PyProof.Rows.callWith_builtin1 (thn (ha pos pins s σ H _ I h) fun us s1 zy76=>?_) he hpl;obtain⟨vs,H1,I1,r1,q1⟩:=zy76;exact hc pins s1 σ H1 vs us Q I1 r1 q1
theorem ee (hc:eL X (.type T) r) (hg:Gl X x) (hm:X.mg x=none) (hv:bootBuiltins x=some (.type T)) (ha:PA X (e::es) t) (hn:x≠"__name__":=by decide) (hdb:(x==("__debug__":Str))=false:=by decide)
 (he:starEach (e::es) X.env=(false,eval e X.env)::starEach es X.env:=by rfl) (hpl:(backTo pos (starEach es X.env)).any (·.1)=false:=by rfl):PE X (.Call (.Name x p) (e::es) [] pos) (tCB r t):=by
 intro pins s σ H Q I h;refine wpAny_Call_Name_kw (dW I hg hm hv ?_ hn hdb);refine PyProof.Rows.callWith_type1 (thn (ha pos pins s σ H _ I h) fun us s1 zy77=>?_) he hpl;obtain⟨vs,H1,I1,r1,q1⟩:=zy77;exact hc pins s1 σ H1 vs us Q I1 r1 q1
end
end L2
namespace HT
open PySem PyProof.Rows
section
open PySem.SeqAt
open PySem.AutoSeq1 (wpAny_loadPart')
open PySem.MeetsSeq PySem.MeetsSeq2 PySem.MeetsSeq3
end
section
variable {prog:Program} {w:World} {A:Around} {E:VSP} {s:Shared}
theorem tG {t b:Addr} {vs ws:List Value} {Q:VSP} (ht:IsTup s.heap t vs.toArray) (hb:IsTup s.heap b ws.toArray) (hv:vs≠[])
 (h1:ws=[]→Q (.ref t) s) (h2:ws≠[]→Q (.ref s.heap.objs.size) {s with heap:=s.heap.push {cls:=.type "tuple",data:=.seq (vs++ws).toArray}})
 (hsz:vs.length+ws.length≤sizeLine):wpAny (model prog w) A (binaryOp .Add (.ref t) (.ref b)) Q E s:=by
 obtain⟨⟨cls,dd,data,sl⟩,ho,hc,n,hd⟩:=id ht;obtain⟨⟨cls2,dd2,data2,sl2⟩,ho2,hc2,n2,hd2⟩:=id hb;simp only at hc hd hc2 hd2;subst hc hd hc2 hd2;have e:vs.toArray++ws.toArray=(vs++ws).toArray:=by simp
 by_cases hw:ws=[]
 · exact concat_meets ⟨_,ho,rfl⟩ ⟨_,ho2,rfl⟩ noFill_tuple_add seq_tuple_add PySem.F.slot_tuple_add PySem.F.entry_tuple_add (PySem.F.args_tuple_add_2 _ _)
    (tuple_addW1 t b vs.toArray ws.toArray n n2 dd dd2 sl sl2 (by simpa using hv) (by simp[hw])) ⟨ho,ho2,h1 hw⟩
 · refine concat_meets ⟨_,ho,rfl⟩ ⟨_,ho2,rfl⟩ noFill_tuple_add seq_tuple_add PySem.F.slot_tuple_add PySem.F.entry_tuple_add (PySem.F.args_tuple_add_2 _ _)
    (tuple_addW2 t b vs.toArray ws.toArray n n2 dd dd2 sl sl2 (by simpa using hv) (by simpa using hw) (by rw[List.size_toArray,List.size_toArray];exact hsz)) ⟨ho,ho2,?_⟩
   rw[e];exact h2 hw
def sIx (n d:Nat):Option Int→Nat
  | none=>d
  | some v=>if v<0 then (v+(n:Int)).toNat else min v.toNat n
theorem pq (n d:Nat):sIx n d none=d:=rfl
theorem jk (n d k:Nat):sIx n d (some (k:Int))=min k n:=by
 show (if (k:Int)<0 then ((k:Int)+(n:Int)).toNat else min (k:Int).toNat n)=min k n;rw[if_neg (by lia),Int.toNat_natCast]
theorem vp (n d:Nat) (hd:d≤n) (o:Option Int):sIx n d o≤n:=by
 cases o with
 | none=>exact hd
 | some v =>
  show (if v<0 then (v+(n:Int)).toNat else min v.toNat n)≤n;by_cases hv:v<0
  · rw[if_pos hv];lia
  · rw[if_neg hv];exact Nat.min_le_right _ _
theorem kO (v:Int) (n:Nat) (h:¬ v<0):min v (n:Int)=((min v.toNat n:Nat):Int):=by
 obtain⟨k,rfl⟩:=Int.eq_ofNat_of_zero_le (Int.not_lt.mp h);show min (k:Int) (n:Int)=((min k n:Nat):Int)
 rcases Nat.le_total k n with z | z
 · rw[Nat.min_eq_left z,Int.min_eq_left (Int.ofNat_le.mpr z)]
 · rw[Nat.min_eq_right z,Int.min_eq_right (Int.ofNat_le.mpr z)]
theorem mP (v:Int) (n d:Nat):(if v<0 then max (v+(n:Int)) 0 else min v (n:Int))=((sIx n d (some v):Nat):Int):=by
 show (if v<0 then max (v+(n:Int)) 0 else min v (n:Int))=(((if v<0 then (v+(n:Int)).toNat else min v.toNat n):Nat):Int);by_cases hv:v<0
 · simp only[if_pos hv];exact (Int.ofNat_toNat _).symm
 · simp only[if_neg hv];exact kO v n hv
theorem lP (lo hi:Option Int) (n:Nat):Builtin.Slice.sliceAdjust lo hi 1 (n:Int)=(((sIx n 0 lo:Nat):Int),((sIx n n hi:Nat):Int)):=by
 have h1:¬ ((1:Int)<0):=by lia
 unfold Builtin.Slice.sliceAdjust;simp only[h1,if_false];refine Prod.ext ?_ ?_
 · cases lo with
   | none=>rfl
   | some v=>exact mP v n 0
 · cases hi with
   | none=>rfl
   | some v=>exact mP v n n
theorem lm (i j:Nat):Builtin.Slice.slicePlaces (i:Int) (j:Int) 1=j-i:=by
 unfold Builtin.Slice.slicePlaces;have h1:(1:Int)>0:=by lia
 simp only[h1,if_true,Int.ediv_one];split <;> lia
theorem eN {v:Value} {o:Option Int} {Q:Option Int→Shared→Prop} (p:IsPart v o) (h:Q o s):wpAny (model prog w) A (Builtin.Slice.slicePartIndex v) Q E s:=by
 cases p with
 | none=>exact slicePart_none h
 | int i t=>exact slicePart_int h
theorem dg {sl:Addr} {vl vu:Value} {lo hi:Option Int} {n:Nat} {Q:Int×Int×Nat→Shared→Prop} (hs:s.heap.IsSliceOf sl vl vu .none) (pl:IsPart vl lo) (pu:IsPart vu hi)
 (h:Q (((sIx n 0 lo:Nat):Int),1,sIx n n hi-sIx n 0 lo) s):wpAny (model prog w) A (Builtin.Slice.sliceApplied (.ref sl) (pure (n:Int))) Q E s:=by
 obtain⟨os,hos,hcs,hds⟩:=id hs;unfold Builtin.Slice.sliceApplied Builtin.Slice.sliceFields;refine wB (wB (wpAny_field hos hds (x:=vl) rfl (wB (wpAny_field hos hds (x:=vu) rfl (wB (wpAny_field hos hds (x:=.none) rfl (wP ?_)))))));refine wB (slicePart_none ?_);show wpAny _ _ (if ((1:Int)==0)=true then _ else _) _ _ s;rw[if_neg (by decide)];refine wB (eN pl (wB (eN pu (wB (wP ?_)))));show wpAny _ _ (match Builtin.Slice.sliceAdjust lo hi 1 (n:Int) with | (lo,hi)=>pure (lo,(1:Int),Builtin.Slice.slicePlaces lo hi 1)) _ _ s;rw[lP lo hi n];show wpAny _ _ (pure (((sIx n 0 lo:Nat):Int),(1:Int),Builtin.Slice.slicePlaces ((sIx n 0 lo:Nat):Int) ((sIx n n hi:Nat):Int) 1)) _ _ s;rw[lm];exact wP h
theorem qb (xs:Array Value) (i k:Nat):((List.range k).filterMap fun (m:Nat)=>xs[((i:Int)+(m:Int)*1).toNat]?).toArray=((xs.toList.drop i).take k).toArray:=by
 have e:(fun (m:Nat)=>xs[((i:Int)+(m:Int)*1).toNat]?)=fun m=>xs[i+m]?:=by
  funext m
  have:((i:Int)+(m:Int)*1).toNat=i+m:=by lia
  rw[this]
 rw[e];have:=pick_run xs i k;rw[List.filterMap_map] at this;have e2:((fun x=>xs[x]?)∘fun x=>i+x)=fun m=>xs[i+m]?:=rfl;rw[e2] at this;rw[this]
theorem fJ {t sl:Addr} {aq:Array Value} {vl vu:Value} {lo hi:Option Int} {Q:VSP} (ht:IsTup s.heap t aq) (hs:s.heap.IsSliceOf sl vl vu .none) (pl:IsPart vl lo) (pu:IsPart vu hi)
 (hw:¬ (sIx aq.size 0 lo=0∧sIx aq.size aq.size hi=aq.size))
 (h:Q (.ref s.heap.objs.size) {s with heap:=s.heap.push {cls:=.type "tuple",data:=.seq ((aq.toList.drop (sIx aq.size 0 lo)).take (sIx aq.size aq.size hi-sIx aq.size 0 lo)).toArray}})
 (hsz:aq.size≤sizeLine):wpAny (model prog w) A (getItem (.ref t) (.ref sl)) Q E s:=by
 have htake:sizeOk (.seq ((aq.toList.drop (sIx aq.size 0 lo)).take (sIx aq.size aq.size hi-sIx aq.size 0 lo)).toArray):=by
  show ((aq.toList.drop (sIx aq.size 0 lo)).take (sIx aq.size aq.size hi-sIx aq.size 0 lo)).toArray.size≤sizeLine;rw[List.size_toArray,lTk,List.length_drop,Array.length_toList];exact Nat.le_trans (Nat.min_le_right _ _) (Nat.le_trans (Nat.sub_le _ _) hsz)
 have hj:sIx aq.size aq.size hi≤aq.size:=vp _ _ (Nat.le_refl _) hi;obtain⟨os,hos,hcs,hds⟩:=id hs;have hTs:s.TypeIs (.ref sl) "slice":=⟨os,hos,hcs⟩;unfold getItem
 try with_reducible refine wpAny_holding ?_
 first | refine wB (wP ?_) | skip
 refine wB (wpAny_sequenceKey ht.typeIs (by decide) ?_);refine wB (wpAny_callSpecial?_slot (name:=Str.ofString "__getitem__") ht.typeIs PyProof.Rows.slot_tuple_getitem
   (wpAny_call_entry PyProof.Rows.slot_tuple_getitem ht.typeIs entry_tuple_getitem ?_ (args_tuple_getitem _ _)))
 show wpAny _ _ (Builtin.Tuple.tupleItemsOf (.ref t)>>=_) _ _ s;refine wB (tupleItemsOf_ ht ?_);refine wB (wpAny_typeOf hTs ?_);rw[if_pos (by decide)];refine wB (dg hs pl pu ?_);have hno:¬ ((((sIx aq.size 0 lo:Nat):Int)==0&&(1:Int)==1&&(sIx aq.size aq.size hi-sIx aq.size 0 lo)==aq.size)=true):=by
  intro q;rw[Bool.and_eq_true,Bool.and_eq_true] at q;have q1:((sIx aq.size 0 lo:Nat):Int)=0:=eq_of_beq q.1.1;have q2:sIx aq.size aq.size hi-sIx aq.size 0 lo=aq.size:=eq_of_beq q.2;exact hw ⟨by lia,by lia⟩
 show wpAny _ _ (if (((sIx aq.size 0 lo:Nat):Int)==0&&(1:Int)==1&&(sIx aq.size aq.size hi-sIx aq.size 0 lo)==aq.size)=true then _ else _) _ _ s;rw[if_neg hno,qb]
 first
  | exact wB (m:=Builtin.Tuple.tupleExact _) (wpAny_newObj_type (wP ⟨_,rfl,wP h⟩) htake)
  | exact wB (m:=Builtin.Tuple.tupleExact _) (wpAny_newObj_type (wB (wP (wP ⟨_,rfl,wP h⟩))) htake)
  | exact wB (wB (m:=Builtin.Tuple.tupleExact _) (wpAny_newObj_type (wP (wP ⟨_,rfl,wP h⟩)) htake))
  | exact wB (wB (m:=Builtin.Tuple.tupleExact _) (wpAny_newObj_type (wP ⟨_,rfl,wP h⟩) htake))
end
end HT
namespace L2
open PySem PySem.Spec PyProof.Rows
abbrev TO:=St→Hp→(Option Int→Hp→Prop)→Prop
def PO (X:Cx) (e:Option Expr) (t:TO):Prop :=
  ∀ (pins:AOs) (s:Shared) (σ:St) (H:Hp) (Q:Option Int→Hp→Prop),Inv X pins σ H s→t σ H Q →
    wpAny (model X.prog X.w) X.A (evalPart e X.env) (fun u s'=>∃ o H',Inv X pins σ H' s'∧IsPart u o∧Q o H') X.xe s
def mh:TO:=fun _ H Q=>Q none H
def tP (t:TE):TO:=fun σ H Q=>t σ H fun x H1=>wJ x H1 fun i H2=>Q (some i) H2
theorem lE {ns:List Int}:∀ {us:List Value},aO (ns.map V.int) us→IntsAre us ns:=by
 induction ns with
 | nil=>intro us r;rw[List.map_nil] at r;cases r;exact .nil
 | cons n ns ih =>
  intro us r;rw[List.map_cons] at r;cases r with
  | cons r1 r2 =>
   obtain⟨t,e⟩:=r1;subst e;exact .cons n t (ih r2)
section
variable {X:Cx} {e:Expr} {te:TE} {lo hi:Option Expr} {tl th:TO} {pos p2:Pos}
theorem cL:PO X none mh:=by
 intro pins s σ H Q I h;rw[evalPart_none];exact wP ⟨none,H,I,.none,h⟩
theorem bE (h:PE X e te):PO X (some e) (tP te):=by
 intro pins s σ H Q I hw;rw[evalPart_some];refine thn (h pins s σ H _ I hw) fun u s1 zy78=>?_;obtain⟨x,H1,I1,r1,q1⟩:=zy78;obtain⟨i,rfl,q⟩:=q1;obtain⟨t,rfl⟩:=r1;exact⟨some i,H1,I1,.int i t,q⟩
def SlR (X:Cx) (r:V→Option Int→Option Int→Hp→VK→Prop):Prop :=
  ∀ (pins:AOs) (s:Shared) (σ:St) (H:Hp) (x:V) (v vl vu:Value) (lo hi:Option Int) (sl:Addr) (Q:VK),Inv X pins σ H s→aM x v→s.heap.IsSliceOf sl vl vu .none→IsPart vl lo→IsPart vu hi→r x lo hi H Q →
    ∃ T id,typeLookup (.type T) "__getitem__"=pure (some (.builtin id))∧s.TypeIs v T∧wpAny (model X.prog X.w) X.A (getItem v (.ref sl)) (EP X pins σ Q) X.xe s
theorem SlR.or {r r':V→Option Int→Option Int→Hp→VK→Prop} (h:SlR X r) (h':SlR X r'):SlR X (fun x lo hi H Q=>r x lo hi H Q∨r' x lo hi H Q):=by
 intro pins s σ H x v vl vu lo hi sl Q I rx hs pl pu q
 rcases q with q | q
 · exact h pins s σ H x v vl vu lo hi sl Q I rx hs pl pu q
 · exact h' pins s σ H x v vl vu lo hi sl Q I rx hs pl pu q
def tSl (r:V→Option Int→Option Int→Hp→VK→Prop) (te:TE) (tl th:TO):TE:=fun σ H Q=>te σ H fun x H1=>tl σ H1 fun l H2=>th σ H2 fun u H3=>r x l u H3 Q
theorem c7 {r:V→Option Int→Option Int→Hp→VK→Prop} (hr:SlR X r) (he:PE X e te) (hl:PO X lo tl) (hu:PO X hi th):PE X (.Subscript e (.Slice lo hi none p2) pos) (tSl r te tl th):=by
 intro pins s σ H Q I h;refine Subscript_ (thn (he pins s σ H _ I h) fun v s1 zy79=>?_);obtain⟨x,H1,I1,r1,q1⟩:=zy79;refine wpAny_Slice (thn (hl pins s1 σ H1 _ I1 q1) fun vl s2 zy80=>?_);obtain⟨l,H2,I2,pl,q2⟩:=zy80;refine thn (hu pins s2 σ H2 _ I2 q2) fun vu s3 zy81=>?_;obtain⟨u,H3,I3,pu,q3⟩:=zy81;rw[evalPart_none];refine wP ?_;have I4:Inv X pins σ H3 {s3 with heap:=s3.heap.push {cls:=.type "slice",data:=.fields #[vl,vu,.none]}}:=I3.kept (t':=s3.toks) fun b ob q=>hpS _ q;obtain⟨T,id,hT,ht,hg⟩:=hr pins {s3 with heap:=s3.heap.push {cls:=.type "slice",data:=.fields #[vl,vu,.none]}} σ H3 x v vl vu l u s3.heap.objs.size Q I4 r1 (Heap.IsSliceOf.new ..) pl pu q3;show wpAny (model X.prog X.w) X.A (subscriptTail e (.Slice lo hi none p2) v (.ref s3.heap.objs.size)) (EP X pins σ Q) X.xe {s3 with heap:=s3.heap.push {cls:=.type "slice",data:=.fields #[vl,vu,.none]}};exact tail_any (ops:=[.ref s3.heap.objs.size,v]) ht hT hg (by with_unfolding_all rfl)
def eT (xs:List V) (lo hi:Option Int):List V:=(xs.drop (HT.sIx xs.length 0 lo)).take (HT.sIx xs.length xs.length hi-HT.sIx xs.length 0 lo)
theorem gh (xs:List V) (lo hi:Option Int):(eT xs lo hi).length≤xs.length:=by
 unfold eT;rw[lTk,List.length_drop];exact Nat.le_trans (Nat.min_le_right _ _) (Nat.sub_le _ _)
def Bg (K:Fg):V→Option Int→Option Int→Hp→VK→Prop:=fun x lo hi H Q=>∃ a xs,x=.ref a∧SqT K H a xs ∧
  ¬ (HT.sIx xs.length 0 lo=0∧HT.sIx xs.length xs.length hi=xs.length)∧∀ p,H p=none→Q (.ref p) (upd H p (.tup (eT xs lo hi)))
theorem eO:SlR X (Bg X.K):=by
 intro pins s σ H x v vl vu lo hi sl Q I rx hs pl pu h;obtain⟨a,xs,rfl,hx,hw,q⟩:=h;cases rx;obtain⟨its,r,ht,hz⟩:=I.tuple hx;have hlen:its.toArray.size=xs.length:=by rw[List.size_toArray];exact r.length.symm
 refine⟨"tuple",_,PyProof.Rows.slot_tuple_getitem.lookup,ht.typeIs,?_⟩;refine HT.fJ ht hs pl pu (by rw[hlen];exact hw) ?_ (by rw[hlen];exact hz);rw[hlen];refine⟨.ref s.heap.objs.size,_,I.laid (t':=s.toks) (o:=.tup (eT xs lo hi)) (fun b ob q=>hpS _ q) (Nat.le_refl _) ?_,rfl,q _ (I.hok.fresh (Nat.le_refl _))⟩;exact⟨Nat.le_trans (gh xs lo hi) hz,_,(r.drop (HT.sIx xs.length 0 lo)).take (HT.sIx xs.length xs.length hi-HT.sIx xs.length 0 lo),IsTup.new _ _⟩
def yG (K:Fg):R2:=fun x y H Q=>∃ a b xs ys,x=.ref a∧y=.ref b∧SqT K H a xs∧SqT K H b ys∧xs≠[]∧xs.length+ys.length≤sizeLine ∧
  (ys=[]→Q (.ref a) H)∧(ys≠[]→∀ p,H p=none→Q (.ref p) (upd H p (.tup (xs++ys))))
theorem aO.nil_iff {xs:List V} {us:List Value} (r:aO xs us):us=[]↔xs=[]:=by
 cases r with
 | nil=>simp
 | cons _ _=>simp
theorem sN:OpR X (binaryOp .Add) (yG X.K):=by
 intro pins s σ H x y v u Q I rx ry h;obtain⟨a,b,xs,ys,rfl,rfl,ha,hb,hx,hz,q1,q2⟩:=h;cases rx;cases ry;obtain⟨its,r1,p1,_⟩:=I.tuple ha;obtain⟨its2,r2,p2,_⟩:=I.tuple hb;refine HT.tG p1 p2 (fun z=>hx (r1.nil_iff.mp z)) (fun z=>⟨.ref a,H,I,rfl,q1 (r2.nil_iff.mp z)⟩) (fun z=>?_) (by rw[← r1.length,← r2.length];exact hz);refine⟨.ref s.heap.objs.size,_,I.laid (t':=s.toks) (o:=.tup (xs++ys)) (fun b ob q=>hpS _ q) (Nat.le_refl _) ?_,rfl,q2 (fun w=>z (r2.nil_iff.mpr w)) _ (I.hok.fresh (Nat.le_refl _))⟩;exact⟨by rw[lAp];exact hz,_,r1.append r2,IsTup.new _ _⟩
end
def ixN (n:Nat) (i:Int):Option Nat:=if 0≤i then (if i<n then some i.toNat else none) else if -(n:Int)≤i then some (i+n).toNat else none
def atI {α:Type} (xs:List α) (i:Int):Option α:=(ixN xs.length i).bind fun j=>xs[j]?
theorem sX {n:Nat} {i:Int} {j:Nat} (h:ixN n i=some j):seqIndex? i n=some j∧j<n∧-(n:Int)≤i∧i<n:=by
 unfold ixN at h;by_cases h0:0≤i
 · rw[if_pos h0] at h;by_cases h1:i<n
   · rw[if_pos h1] at h;have e:i.toNat=j:=Option.some.inj h;exact⟨by rw[seqIndex_of h0 h1,e],by lia,by lia,h1⟩
   · rw[if_neg h1] at h;cases h
 · rw[if_neg h0] at h;by_cases h1:-(n:Int)≤i
   · rw[if_pos h1] at h;have e:(i+n).toNat=j:=Option.some.inj h;exact⟨by rw[seqIndex_neg (by lia) h1,e],by lia,h1,by lia⟩
   · rw[if_neg h1] at h;cases h
theorem jL {α:Type} {xs:List α} {i:Int} {v:α} (h:atI xs i=some v):∃ j,seqIndex? i xs.length=some j∧xs[j]?=some v∧j<xs.length∧-(xs.length:Int)≤i∧i<xs.length:=by
 unfold atI at h;cases e:ixN xs.length i with
 | none=>rw[e] at h;cases h
 | some j =>
  rw[e] at h;obtain⟨h1,h2,h3,h4⟩:=sX e;exact⟨j,h1,h,h2,h3,h4⟩
theorem pJ {α:Type} {xs:List α} {j:Nat} {v:α} (h:xs[j]?=some v):atI xs (j:Int)=some v:=by
 have hj:j<xs.length:=(gES.mp h).1;have e:ixN xs.length (j:Int)=some j:=by
  unfold ixN;rw[if_pos (by lia),if_pos (by lia)];simp
 unfold atI;rw[e];exact h
def tL (b:Expr):Prop:=∀ o i,subscripted b false o i=operate [o,i] (getItem o i)
def IxR (X:Cx) (r:R2):Prop :=
  ∀ (value slice:Expr) (pins:AOs) (s:Shared) (σ:St) (H:Hp) (x y:V) (v u:Value) (Q:VK),Inv X pins σ H s→aM x v→aM y u→r x y H Q →
    subscripted slice false v u=operate [v,u] (getItem v u)→wpAny (model X.prog X.w) X.A (subscriptTail value slice v u) (EP X pins σ Q) X.xe s
def MtR (X:Cx) (id:String) (r:V→List V→Hp→VK→Prop):Prop :=
  ∀ (pins:AOs) (s:Shared) (σ:St) (H:Hp) (x:V) (xs:List V) (v:Value) (us:List Value) (Q:VK),Inv X pins σ H s→aM x v→aO xs us→r x xs H Q →
    wpAny (model X.prog X.w) X.A (call (.builtin id) (v::us)) (EP X pins σ Q) X.xe s
inductive AB (K:Fg) (xs:List V) (H:Hp) (Q:VK):Prop
  | mk (p:Addr) (ys:List V) (h1:xs=[.ref p]) (h2:SqL K H p ys∨SqT K H p ys) (q:Q (.int ys.length) H):AB K xs H Q
def vy (K:Fg):List V→Hp→VK→Prop:=fun xs H Q=>AB K xs H Q
inductive qU (K:Fg) (xs:List V) (H:Hp) (Q:VK):Prop
  | mk (p:Addr) (ys:List V) (h1:xs=[.ref p]) (h2:(SqL K H p ys∧∀ l,H l=none→Q (.ref l) (upd H l (.tup ys)))∨(SqT K H p ys∧Q (.ref p) H)):qU K xs H Q
def pS (K:Fg):List V→Hp→VK→Prop:=fun xs H Q=>qU K xs H Q
section
variable {X:Cx} {a b:Expr} {ta tb:TE} {pos:Pos}
theorem IxR.or {r r':R2} (h:IxR X r) (h':IxR X r'):IxR X (fun x y H Q=>r x y H Q∨r' x y H Q):=by
 intro value slice pins s σ H x y v u Q I rx ry q hs
 rcases q with q | q
 · exact h value slice pins s σ H x y v u Q I rx ry q hs
 · exact h' value slice pins s σ H x y v u Q I rx ry q hs
theorem am {r:R2} (hr:IxR X r) (ha:PE X a ta) (hb:PE X b tb) (hs:tL b):PE X (.Subscript a b pos) (tOp r ta tb):=by
 intro pins s σ H Q I h;exact Subscript_ (wA ha hb I h fun v u s2 x y H2 I2 rx ry q=>hr a b pins s2 σ H2 x y v u Q I2 rx ry q (hs _ _))
inductive AF (K:Fg) (x y:V) (H:Hp) (Q:VK):Prop
  | mk (p:Addr) (xs:List V) (i:Int) (v:V) (h:x=.ref p) (h':y=.int i) (s:SqL K H p xs) (a:atI xs i=some v) (q:Q v H):AF K x y H Q
inductive AE (K:Fg) (x y:V) (H:Hp) (Q:VK):Prop
  | mk (p:Addr) (xs:List V) (i:Int) (v:V) (h:x=.ref p) (h':y=.int i) (s:SqT K H p xs) (a:atI xs i=some v) (q:Q v H):AE K x y H Q
def sB (K:Fg):R2:=fun x y H Q=>AF K x y H Q
def nE (K:Fg):R2:=fun x y H Q=>AE K x y H Q
def vz:R2:=fun x y H Q=>∃ z i c,x=.str z∧y=.int i∧z.length≤sizeLine∧atI z.cps.toList i=some c∧Q (.str ⟨#[c]⟩) H
theorem aG:IxR X (sB X.K):=by
 intro value slice pins s σ H x y v u Q I rx ry h hs;obtain⟨p,xs,i,z,rfl,rfl,hq,he,q⟩:=h;cases rx;obtain⟨t,rfl⟩:=ry;obtain⟨its,r,pl,hz⟩:=I.list hq;obtain⟨j,h1,h2,h3,h4,h5⟩:=jL he;obtain⟨w,ew,rw'⟩:=r.get h2;have hl:=r.length;have hn:=hV;have fin:EP X pins σ Q w s:=⟨z,H,I,rw',q⟩;by_cases h0:0≤i
 · have hj:i.toNat=j:=by
    rw[seqIndex_of h0 h5] at h1;exact Option.some.inj h1
   exact item_listR pl.isList h0 (by lia) (by rw[hj];simpa using ew) fin hs
 · have hj:(i+(its.toArray.size:Int)).toNat=j:=by
    rw[seqIndex_neg (by lia) h4] at h1;rw[List.size_toArray,← hl];exact Option.some.inj h1
   exact subscriptTail_builtinR (x:=w) pl.isList.typeIs slot_list_getitem.lookup
    (wpAny_getItem_list_neg (Q:=fun r s'=>r=w∧EP X pins σ Q r s') pl.isList (by lia) (by rw[List.size_toArray] <;> lia) (by lia) (by rw[hj];simpa using ew) ⟨rfl,fin⟩) hs
theorem aB:IxR X (nE X.K):=by
 intro value slice pins s σ H x y v u Q I rx ry h hs;obtain⟨p,xs,i,z,rfl,rfl,hq,he,q⟩:=h;cases rx;obtain⟨t,rfl⟩:=ry;obtain⟨its,r,pl,hz⟩:=I.tuple hq;obtain⟨j,h1,h2,h3,h4,h5⟩:=jL he;obtain⟨w,ew,rw'⟩:=r.get h2;have hl:=r.length;have hn:=hV;have fin:EP X pins σ Q w s:=⟨z,H,I,rw',q⟩;exact subscriptTail_builtinR (x:=w) pl.typeIs slot_tuple_getitem.lookup
  (getItem_tuple (j:=j) (Q:=fun r s'=>r=w∧EP X pins σ Q r s') pl (by lia) (by lia) (by rw[List.size_toArray,← hl];exact h1) (by simpa using ew) ⟨rfl,fin⟩) hs
theorem qr:IxR X vz:=by
 intro value slice pins s σ H x y v u Q I rx ry h hs;obtain⟨z,i,c,rfl,rfl,hz,he,q⟩:=h;obtain⟨t,rfl⟩:=rx;obtain⟨t',rfl⟩:=ry;obtain⟨j,h1,h2,h3,h4,h5⟩:=jL he;have hl:z.cps.toList.length=z.length:=by simp[Str.length]
 rw[hl] at h1 h4 h5;have hn:=hV;exact tail_any (typeIs_str s z t) slot_str_getitem.lookup (getItem_str (c:=c) (by
   have e1:decide (i < -(2 ^ 63:Int))=false:=decide_eq_false (by lia);have e2:decide (i≥2 ^ 63)=false:=decide_eq_false (by lia);rw[e1,e2,Bool.or_false]) (by rw[h1];simpa using h2) ⟨.str ⟨#[c]⟩,H,I.tok _,⟨_,rfl⟩,q⟩) hs
def rIx (K:Fg):R2:=fun x y H Q=>sB K x y H Q∨nE K x y H Q∨vz x y H Q
theorem vZ:IxR X (rIx X.K):=aG.or (aB.or qr)
theorem ph {i:Int} {n:Nat} (h:i<0):max 0 (min (i+(n:Int)) (n:Int))=((i+(n:Int)).toNat:Int):=by
 rw[Int.min_eq_left (by lia),Int.ofNat_toNat,Int.max_comm]
theorem pf {i:Int} {n:Nat} (h:¬ i<0):max 0 (min i (n:Int))=((min i.toNat n:Nat):Int):=by
 rw[HT.kO i n h];exact Int.max_eq_right (Int.natCast_nonneg _)
theorem jg (lo hi:Option Int) (n:Nat):(sliceBounds lo hi none n).1=((HT.sIx n 0 lo:Nat):Int)∧(sliceBounds lo hi none n).2.1=((HT.sIx n n hi:Nat):Int)∧(sliceBounds lo hi none n).2.2=1:=by
 refine⟨?_,?_,rfl⟩
 · cases lo with
   | none=>simp[sliceBounds,HT.sIx]
   | some i =>
    simp only[sliceBounds,HT.sIx,Option.getD_none,show (1:Int)>0 by decide,if_true];by_cases h:i<0
    · simp only[h,if_true];exact ph h
    · simp only[h,if_false];exact pf h
 · cases hi with
   | none=>simp[sliceBounds,HT.sIx]
   | some i =>
    simp only[sliceBounds,HT.sIx,Option.getD_none,show (1:Int)>0 by decide,if_true];by_cases h:i<0
    · simp only[h,if_true];exact ph h
    · simp only[h,if_false];exact pf h
theorem ix (its:List Value) (lo hi:Option Int):slicePick its.toArray lo hi none=((its.drop (HT.sIx its.length 0 lo)).take (HT.sIx its.length its.length hi-HT.sIx its.length 0 lo)).toArray:=by
 obtain⟨h1,h2,h3⟩:=jg lo hi its.toArray.size;unfold slicePick;rw[h1,h2,h3];simp only[sliceRange_one,pick_run,List.size_toArray] <;> rfl
def Bh (K:Fg):V→Option Int→Option Int→Hp→VK→Prop:=fun x lo hi H Q=>∃ a xs,x=.ref a∧SqL K H a xs∧∀ p,H p=none→Q (.ref p) (upd H p (.lst (eT xs lo hi)))
theorem gB:SlR X (Bh X.K):=by
 intro pins s σ H x v vl vu lo hi sl Q I rx hs pl pu h;obtain⟨a,xs,rfl,hx,q⟩:=h;cases rx;obtain⟨its,r,ht,hz⟩:=I.list hx;have hlen:=r.length;refine⟨"list",_,slot_list_getitem.lookup,ht.isList.typeIs,?_⟩;refine wpAny_getItem_list_slice ht.isList hs pl pu .none (by simp) ?_ (by rw[List.size_toArray] <;> lia);rw[ix,← hlen];refine⟨.ref s.heap.objs.size,_,I.laid (t':=s.toks) (o:=.lst (eT xs lo hi)) (fun b ob q=>hpS _ q) (Nat.le_refl _) ?_,rfl,q _ (I.hok.fresh (Nat.le_refl _))⟩;exact⟨Nat.le_trans (gh xs lo hi) hz,_,0,(r.drop (HT.sIx xs.length 0 lo)).take (HT.sIx xs.length xs.length hi-HT.sIx xs.length 0 lo),Heap.get?_push_size _ rfl⟩
def eF:V→Bool
  | .non=>true
  | .bl _=>true
  | .int _=>true
  | .str _=>true
  | _=>false
def eqV:V→V→Bool
  | .non,.non=>true
  | .bl a,.bl b=>a==b
  | .bl a,.int b=>(if a then 1 else 0)==b
  | .int a,.bl b=>a==(if b then 1 else 0)
  | .int a,.int b=>a==b
  | .str a,.str b=>a==b
  | _,_=>false
theorem wt {A:Around} {s:Shared} {y x:V} {u v:Value} (ry:aM y u) (rx:aM x v) (fy:eF y=true) (fx:eF x=true):SeqAt.EqAt A s u v (eqV y x):=by
 cases y with
 | non =>
  cases ry;cases x with
  | non=>cases rx;exact SeqAt.EqAt.same _
  | bl b=>cases rx;exact SeqAt.EqAt.none_bool b
  | int b=>obtain⟨t,rfl⟩:=rx;exact SeqAt.EqAt.none_int b t
  | str b=>obtain⟨t,rfl⟩:=rx;exact SeqAt.EqAt.none_str b t
  | _=>exact absurd (show false=true from fx) Bool.false_ne_true
 | bl a =>
  cases ry;cases x with
  | non=>cases rx;exact SeqAt.EqAt.bool_none a
  | bl b=>cases rx;exact SeqAt.EqAt.bool_bool a b
  | int b=>obtain⟨t,rfl⟩:=rx;exact SeqAt.EqAt.bool_int a b t
  | str b=>obtain⟨t,rfl⟩:=rx;exact SeqAt.EqAt.bool_str a b t
  | _=>exact absurd (show false=true from fx) Bool.false_ne_true
 | int a =>
  obtain⟨t',rfl⟩:=ry;cases x with
  | non=>cases rx;exact SeqAt.EqAt.int_none a t'
  | bl b=>cases rx;exact SeqAt.EqAt.int_bool a t' b
  | int b=>obtain⟨t,rfl⟩:=rx;exact SeqAt.EqAt.int_int a t' b t
  | str b=>obtain⟨t,rfl⟩:=rx;exact SeqAt.EqAt.int_str a t' b t
  | _=>exact absurd (show false=true from fx) Bool.false_ne_true
 | str a =>
  obtain⟨t',rfl⟩:=ry;cases x with
  | non=>cases rx;exact SeqAt.EqAt.str_none a t'
  | bl b=>cases rx;exact SeqAt.EqAt.str_bool a t' b
  | int b=>obtain⟨t,rfl⟩:=rx;exact SeqAt.EqAt.str_int a t' b t
  | str b=>obtain⟨t,rfl⟩:=rx;exact SeqAt.EqAt.str_str a t' b t
  | _=>exact absurd (show false=true from fx) Bool.false_ne_true
 | _=>exact absurd (show false=true from fy) Bool.false_ne_true
def eqU (x:V) (u:Value):Bool:=match u with
  | .none=>eqV .non x
  | .bool b=>eqV (.bl b) x
  | .int i _=>eqV (.int i) x
  | .str z _=>eqV (.str z) x
  | _=>false
theorem qH {x y:V} {u:Value} (r:aM y u) (f:eF y=true):eqU x u=eqV y x:=by
 cases y with
 | non=>cases r;rfl
 | bl b=>cases r;rfl
 | int i=>obtain⟨t,rfl⟩:=r;rfl
 | str z=>obtain⟨t,rfl⟩:=r;rfl
 | _=>exact absurd (show false=true from f) Bool.false_ne_true
theorem gG {x:V}:∀ {xs:List V} {us:List Value},aO xs us→xs.all eF=true→us.any (eqU x)=xs.any fun y=>eqV y x:=by
 intro xs us h
 induction h with
 | nil=>intro _;rfl
 | cons r t ih =>
  intro f;rw[List.all_cons,Bool.and_eq_true] at f;rw[List.any_cons,List.any_cons,qH r f.1,ih f.2]
theorem fH {A:Around} {s:Shared} {x:V} {v:Value} (rx:aM x v) (fx:eF x=true):∀ {xs:List V} {us:List Value},aO xs us→xs.all eF=true→∀ u∈us,SeqAt.EqAt A s u v (eqU x u):=by
 intro xs us h
 induction h with
 | nil=>intro _ u hu;cases hu
 | cons r t ih =>
  intro f u hu;rw[List.all_cons,Bool.and_eq_true] at f
  rcases List.mem_cons.mp hu with rfl | hu
  · rw[qH r f.1];exact wt r rx f.1 fx
  · exact ih f.2 u hu
def inV (x:V) (xs:List V):Bool:=xs.any fun y=>eqV y x
def rIn (K:Fg) (neg:Bool):R2:=fun x y H Q=>∃ p xs,y=.ref p∧(SqL K H p xs∨SqT K H p xs)∧eF x=true∧xs.all eF=true∧Q (.bl (if neg then !inV x xs else inV x xs)) H
theorem cQ:OpR X (compareOp .In) (rIn X.K false):=by
 intro pins s σ H x y v u Q I rx ry h;obtain⟨p,xs,rfl,hq,fx,fs,q⟩:=h;cases ry
 rcases hq with hq | hq
 · obtain⟨its,r,pl,hz⟩:=I.list hq;refine SeqAt.in_listAt (eqU x) pl.isList (fun w hw=>fH rx fx r fs w (by simpa using hw)) ⟨.bl _,H,I,rfl,?_⟩;rw[show its.toArray.any (eqU x)=its.any (eqU x) by simp,gG r fs];exact q
 · obtain⟨its,r,pl,hz⟩:=I.tuple hq;refine SeqAt.in_tupleAt (eqU x) pl (fun w hw=>fH rx fx r fs w (by simpa using hw)) ⟨.bl _,H,I,rfl,?_⟩;rw[show its.toArray.any (eqU x)=its.any (eqU x) by simp,gG r fs];exact q
theorem cN:OpR X (compareOp .NotIn) (rIn X.K true):=by
 intro pins s σ H x y v u Q I rx ry h;obtain⟨p,xs,rfl,hq,fx,fs,q⟩:=h;cases ry
 rcases hq with hq | hq
 · obtain⟨its,r,pl,hz⟩:=I.list hq;refine SeqAt.notIn_listAt (eqU x) pl.isList (fun w hw=>fH rx fx r fs w (by simpa using hw)) ⟨.bl _,H,I,rfl,?_⟩;rw[show its.toArray.any (eqU x)=its.any (eqU x) by simp,gG r fs];exact q
 · obtain⟨its,r,pl,hz⟩:=I.tuple hq;refine SeqAt.notIn_tupleAt (eqU x) pl (fun w hw=>fH rx fx r fs w (by simpa using hw)) ⟨.bl _,H,I,rfl,?_⟩;rw[show its.toArray.any (eqU x)=its.any (eqU x) by simp,gG r fs];exact q
theorem jK:eL X (.builtin "len") (vy X.K):=by
 intro pins s σ H xs us Q I r h;obtain⟨p,ys,rfl,hq,q⟩:=h;obtain⟨u,rfl,rx⟩:=iK r;cases rx;have hn:=hV
 rcases hq with hq | hq
 · obtain⟨its,r',pl,hz⟩:=I.list hq;have hlen:=r'.length;exact Calls.call_len_list pl.isList (by simp only[List.size_toArray] <;> lia) ⟨.int ys.length,H,I.tok _,⟨s.toks+1,by rw[List.size_toArray,hlen]⟩,q⟩
 · obtain⟨its,r',pl,hz⟩:=I.tuple hq;have hlen:=r'.length;exact len_tuple pl (by simp only[List.size_toArray] <;> lia) ⟨.int ys.length,H,I.tok _,⟨s.toks+1,by rw[List.size_toArray,hlen]⟩,q⟩
theorem jJ:eL X (.type "list") (fun xs H Q=>∃ p ys,xs=[.ref p]∧(SqL X.K H p ys∨SqT X.K H p ys)∧∀ l,H l=none→Q (.ref l) (upd H l (.lst ys))):=by
 intro pins s σ H xs us Q I r h;obtain⟨p,ys,rfl,hq,q⟩:=h;obtain⟨u,rfl,rx⟩:=iK r;cases rx;have fin:∀ (its:List Value),aO ys its→ys.length≤sizeLine→∀ (h':Heap) (c':Nat),(∀ b o',s.heap.get? b=some o'→h'.get? b=some o') →
  h'.get? s.heap.objs.size=some {cls:=.type "list",dict:=none,data:=.seq its.toArray c',slots:=#[]}→EP X pins σ Q (.ref s.heap.objs.size) {s with heap:=h'}:=fun its r' hz h' c' kp e =>
  ⟨.ref s.heap.objs.size,_,I.laid (t':=s.toks) kp (Nat.le_refl _) (show bb X.prog X.w _ h' _ (.lst ys) from ⟨hz,its,c',r',e⟩),rfl,q _ (I.hok.fresh (Nat.le_refl _))⟩
 rcases hq with hq | hq
 · obtain⟨its,r',pl,hz⟩:=I.list hq;have hlen:=r'.length;obtain⟨o,ho,hc,n,hd⟩:=pl.isList;exact call_list_seq p (.inl rfl) ho hc hd (fun h' c' kp e=>fin its r' hz h' c' kp e) (by simp only[List.size_toArray] <;> lia)
 · obtain⟨its,r',pl,hz⟩:=I.tuple hq;have hlen:=r'.length;obtain⟨o,ho,hc,n,hd⟩:=pl;exact call_list_seq p (.inr rfl) ho hc hd (fun h' c' kp e=>fin its r' hz h' c' kp e) (by simp only[List.size_toArray] <;> lia)
theorem iC:eL X (.type "tuple") (pS X.K):=by
 intro pins s σ H xs us Q I r h;obtain⟨p,ys,rfl,h⟩:=h;obtain⟨u,rfl,rx⟩:=iK r;cases rx
 rcases h with ⟨hq,q⟩ | ⟨hq,q⟩
 · obtain⟨its,r',pl,hz⟩:=I.list hq;have hlen:=r'.length;refine call_tuple_list pl.isList (fun h' kp=>?_) (by simp only[List.size_toArray] <;> lia);have I1:Inv X pins σ H {s with heap:=h'}:=I.kept (t':=s.toks) kp;have I2:Inv X pins σ (upd H h'.objs.size (.tup ys)) {s with heap:=h'.push {cls:=.type "tuple",data:=.seq its.toArray}} :=
    I1.laid (t':=s.toks) (fun b o e=>hpS _ e) (Nat.le_refl _) (show bb X.prog X.w _ _ _ (.tup ys) from ⟨hz,its,r',IsTup.new _ _⟩)
   exact⟨.ref h'.objs.size,_,I2,rfl,q _ (I1.hok.fresh (Nat.le_refl _))⟩
 · obtain⟨its,r',pl,hz⟩:=I.tuple hq;exact call_tuple_same pl ⟨.ref p,H,I,rfl,q⟩
def tyV (K:Fg) (T:String) (x:V) (H:Hp):Prop:=match x with
  | .str _=>T="str"
  | .int _=>T="int"
  | .ref p=>(T="list"∧∃ xs,SqL K H p xs)∨(T="tuple"∧∃ o,K.lookup p=some o∧o.cls=.type "tuple"∧o.dict=none) ∨
      (T="dict"∧((∃ kvs,H p=some (.dK kvs))∨∃ kvs,H p=some (.dT kvs)))∨(T="set"∧∃ S n,H p=some (.set S n))
  | _=>False
theorem oK {pins:AOs} {σ:St} {H:Hp} {s:Shared} {T:String} {x:V} {v:Value} (I:Inv X pins σ H s) (r:aM x v) (ty:tyV X.K T x H) :
 s.TypeIs v T∧∀ a,v=.ref a→∃ ob,s.heap.get? a=some ob∧ob.dict=none:=by
 cases x with
 | str z =>
  obtain⟨t,rfl⟩:=r;cases (show T="str" from ty);exact⟨typeIs_str s z t,fun _ e=>nomatch e⟩
 | int i =>
  obtain⟨t,rfl⟩:=r;cases (show T="int" from ty);exact⟨typeIs_int s i t,fun _ e=>nomatch e⟩
 | ref p =>
  cases r
  rcases ty with ⟨rfl,xs,hq⟩ | ⟨rfl,o,hk,hc,hd⟩ | ⟨rfl,hk⟩ | ⟨rfl,S,n,hk⟩
  · obtain⟨its,_,pl,_⟩:=I.list hq;refine⟨pl.isList.typeIs,fun a e=>?_⟩;cases e;obtain⟨o,n,e,c,hd,_⟩:=pl;exact⟨o,e,hd⟩
  · refine⟨⟨o,I.kIn p o hk,hc⟩,fun a e=>?_⟩;cases e;exact⟨o,I.kIn _ o hk,hd⟩
  · have z:∃ o,s.heap.get? p=some o∧o.ExactDict:=by
     rcases hk with ⟨kvs,hk⟩ | ⟨kvs,hk⟩
     · obtain⟨_,_,_,_,o,_,_,e,ex,_⟩:=I.hok p _ hk;exact⟨o,e,ex⟩
     · obtain⟨_,_,_,_,o,_,_,e,ex,_⟩:=I.hok p _ hk;exact⟨o,e,ex⟩
    obtain⟨o,e,ex⟩:=z;refine⟨⟨o,e,ex.1⟩,fun a e2=>?_⟩;cases e2;exact⟨o,e,ex.2.1⟩
  · obtain⟨o,_,_,_,e,ex,_⟩:=I.hok p _ hk;refine⟨⟨o,e,ex.1⟩,fun a e2=>?_⟩;cases e2;exact⟨o,e,ex.2.1⟩
 | _=>exact False.elim ty
def xk (K:Fg) (T:String) (r:V→List V→Hp→VK→Prop) (to:TE):TE:=fun σ H Q=>to σ H fun x H1=>tyV K T x H1∧r x [] H1 Q
def tBM (K:Fg) (T:String) (r:V→List V→Hp→VK→Prop) (to:TE) (t:TA):TE:=fun σ H Q=>to σ H fun x H1=>tyV K T x H1∧t σ H1 fun xs H2=>r x xs H2 Q
variable {o e:Expr} {es:List Expr} {to:TE} {t:TA} {name:Str} {apos cpos:Pos} {T id:String} {r:V→List V→Hp→VK→Prop}
theorem vF (pa:PlainAttrs T) (slot:Slot T name id) (hty:typeOf (.builtin id)=pure (.type "method_descriptor")) (hm:MtR X id r) (ho:PE X o to)
 (hbase:attributeBase o name X.env (eval o X.env)=eval o X.env:=by rfl) (hline:(apos.endLine==cpos.line)=true:=by rfl):PE X (.Call (.Attribute o name apos) [] [] cpos) (xk X.K T r to):=by
 intro pins s σ H Q I h;refine wpAny_Call_method0_late hbase hline (thn (ho pins s σ H _ I h) fun v s1 zy82=>?_);obtain⟨x,H1,I1,r1,ty,q1⟩:=zy82;obtain⟨h1,h2⟩:=oK I1 r1 ty;exact⟨T,id,pa,slot,hty,h1,h2,Calls.callWith_builtin rfl (PySem.evalArgs_none (hm pins s1 σ H1 x [] v [] Q I1 r1 .nil q1))⟩
theorem qf (pa:PlainAttrs T) (slot:Slot T name id) (hty:typeOf (.builtin id)=pure (.type "method_descriptor")) (hm:MtR X id r) (ho:PE X o to) (ha:PA X (e::es) t)
 (hbase:attributeBase o name X.env (eval o X.env)=eval o X.env:=by rfl)
 (hfew:((backTo cpos (starEach (e::es) X.env)).all (fun x=>!x.1)&&(backToKw cpos (keywordEach [] X.env)).all (fun x=>x.1.isSome)
   && decide ((e::es).length+([]:List Keyword).length+(if ([]:List Keyword).isEmpty then 0 else 1)<30))=true:=by rfl)
 (hline:(apos.endLine==cpos.line)=true:=by rfl) (hs:starEach (e::es) X.env=(false,eval e X.env)::starEach es X.env:=by rfl) (hplain:(backTo cpos (starEach es X.env)).any (·.1)=false:=by rfl) :
 PE X (.Call (.Attribute o name apos) (e::es) [] cpos) (tBM X.K T r to t):=by
 intro pins s σ H Q I h;refine wpAny_Call_method_late hbase hfew hline rfl (thn (ho pins s σ H _ I h) fun v s1 zy83=>?_);obtain⟨x,H1,I1,r1,ty,q1⟩:=zy83;obtain⟨h1,h2⟩:=oK I1 r1 ty;refine⟨T,id,pa,slot,hty,h1,h2,?_⟩;have hA:=ha cpos pins s1 σ H1 _ I1 q1;rw[hs] at hA ⊢;refine Calls.callWith_builtin (by show (false||(backTo cpos (starEach es X.env)).any (·.1))=false;rw[hplain] <;> rfl) (Calls.evalArgs_plain ?_);refine thn hA fun us s2 zy84=>?_;obtain⟨vs,H2,I2,r2,q2⟩:=zy84;exact hm pins s2 σ H2 x vs v us Q I2 r1 r2 q2
/- xs.append(e),list.index on a module's tuple .. are MtR facts of 06m -/
end
def MtM (X:Cx) (id:String) (r:V→List V→Hp→VK→Prop):Prop :=
  ∀ (pins:AOs) (s:Shared) (σ:St) (H:Hp) (x:V) (xs:List V) (v:Value) (us:List Value) (Q:VK),Inv X pins σ H s→aM x v→aO xs us→r x xs H Q →
    wpAny (model X.prog X.w) X.A (call (.builtin id) (v::us)) (EP X pins σ Q) X.xe s
theorem aO.one:∀ {x:V} {us:List Value},aO [x] us→∃ u,us=[u]∧aM x u:=by
 intro x us h;cases h with
 | cons r t=>cases t;exact⟨_,rfl,r⟩
theorem aO.two:∀ {x y:V} {us:List Value},aO [x,y] us→∃ u v,us=[u,v]∧aM x u∧aM y v:=by
 intro x y us h;cases h with
 | cons r t=>obtain⟨u,rfl,q⟩:=aO.one t;exact⟨_,_,rfl,r,q⟩
theorem aO.zero:∀ {us:List Value},aO [] us→us=[]
 | _,.nil=>rfl
theorem aO.dropLast {xs:List V} {us:List Value} (h:aO xs us):aO xs.dropLast us.dropLast:=by
 induction h with
 | nil=>exact .nil
 | cons r t ih =>
  cases t with
  | nil=>exact .nil
  | cons q t'=>exact .cons r ih
theorem lH {α:Type} (l:List α):l.eraseIdx (l.length-1)=l.dropLast:=by
 induction l with
 | nil=>rfl
 | cons a r ih =>
  cases r with
  | nil=>rfl
  | cons b r =>
   have e:(a::b::r).length-1=((b::r).length-1)+1:=by
    have h1:(a::b::r).length=r.length+2:=rfl;have h2:(b::r).length=r.length+1:=rfl;lia
   rw[e,List.eraseIdx_cons_succ,ih]
   all_goals rfl
section
variable {X:Cx} {pins:AOs} {σ:St} {H:Hp} {s:Shared} {l b:Addr} {xs ys zs:List V}
theorem Inv.lset {its its':List Value} {n:Nat} {f:Array Value→Array Value} {t':Nat} (I:Inv X pins σ H s) (hH:H l=some (.lst xs))
 (e:s.heap.get? l=some {cls:=.type "list",data:=.seq its.toArray n}) (hf:f its.toArray=its'.toArray) (hv:aO ys its') (hz:ys.length≤sizeLine) :
 Inv X pins σ (upd H l (.lst ys)) {s with heap:=s.heap.update l (Obj.mapSeq f),toks:=t'}:=by
 have q:=PySem.IsL.update e f;rw[hf] at q;refine I.write (x:=l) (e:=l) (by rw[hH];exact trivial) (.inl rfl) (fun b' u hb hu=>(Heap.get?_update_other s.heap (Obj.mapSeq f) (Ne.symm hb)).trans hu) ⟨_,q⟩ ?_;exact⟨hz,its',_,hv,q⟩
theorem Inv.lnew {its:List Value} {t':Nat} (I:Inv X pins σ H s) (hv:aO ys its) (hz:ys.length≤sizeLine) :
 Inv X pins σ (upd H s.heap.objs.size (.lst ys)) {s with heap:=s.heap.push {cls:=.type "list",data:=.seq its.toArray},toks:=t'} :=
 I.laid (fun _ _ q=>hpS _ q) (Nat.le_refl _) ⟨hz,its,0,hv,Heap.get?_push_size _ rfl⟩
theorem Inv.fresh (I:Inv X pins σ H s):H s.heap.objs.size=none:=I.hok.fresh (Nat.le_refl _)
theorem Inv.lstM (I:Inv X pins σ H s) (hH:H l=some (.lst xs)):xs.length≤sizeLine∧∃ (its:List Value) (n:Nat),aO xs its∧xs.length=its.length∧s.heap.get? l=some {cls:=.type "list",data:=.seq its.toArray n}:=by
 obtain⟨z,its,n,r,e⟩:=I.hok l _ hH;exact⟨z,its,n,r,r.length,e⟩
theorem kF {n:Nat} (h:n≤sizeLine):Builtin.List.listTooLong n=false:=by
 unfold Builtin.List.listTooLong;exact decide_eq_false (by lia)
end
section
variable {X:Cx}
inductive AI (x:V) (vs:List V) (H:Hp) (Q:VK):Prop
  | mk (l:Addr) (xs:List V) (y:V) (h1:x=.ref l) (h2:vs=[y]) (h3:H l=some (.lst xs)) (h4:xs.length<sizeLine) (q:Q .non (upd H l (.lst (xs++[y])))):AI x vs H Q
def jl:V→List V→Hp→VK→Prop:=fun x vs H Q=>AI x vs H Q
theorem iR:MtM X "list.append" jl:=by
 intro pins s σ H x vs v us Q I rx rv h;obtain⟨l,xs,y,rfl,rfl,hH,hz,q⟩:=h;cases rx;obtain⟨u,rfl,ru⟩:=rv.one;obtain⟨z,its,n,r,hl,e⟩:=I.lstM hH;refine call_meets F.slot_list_append ⟨_,e,rfl⟩ F.entry_list_append (F.args_list_append_2 _ _) (PySem.list_append l its.toArray n u (by rw[List.size_toArray];lia)) ⟨e,?_⟩;refine⟨.non,_,I.lset (its':=its++[u]) hH e (by simp) (r.append (.cons ru .nil)) ?_,rfl,q⟩;rw[lAp,List.length_singleton];lia
def mv:V→List V→Hp→VK→Prop:=fun x vs H Q=>∃ l b xs zs,x=.ref l∧vs=[.ref b]∧H l=some (.lst xs)∧H b=some (.lst zs)∧xs.length+zs.length≤sizeLine∧Q .non (upd H l (.lst (xs++zs)))
theorem nN:MtM X "list.extend" mv:=by
 intro pins s σ H x vs v us Q I rx rv h;obtain⟨l,b,xs,zs,rfl,rfl,hH,hB,hz,q⟩:=h;cases rx;obtain⟨u,rfl,ru⟩:=rv.one;cases ru;obtain⟨z,its,n,r,hl,e⟩:=I.lstM hH;obtain⟨z2,its2,n2,r2,hl2,e2⟩:=I.lstM hB;have hsz:its.toArray.size+its2.toArray.size≤sizeLine:=by rw[List.size_toArray,List.size_toArray];lia
 have hlong:¬ (!its.toArray.isEmpty&&Builtin.List.listTooLong (its.toArray.size+its2.toArray.size))=true:=by
  rw[kF hsz,Bool.and_false];exact Bool.false_ne_true
 refine call_meets F.slot_list_extend ⟨_,e,rfl⟩ F.entry_list_extend (F.args_list_extend_2 _ _)
  (AutoSeq1.list_extend_list_list_0 l its.toArray n b its2.toArray n2 hlong (by rw[List.size_toArray];lia) (by lia)) ⟨e,e2,?_⟩
 refine⟨.non,_,I.lset (its':=its++its2) hH e (by simp) (r.append r2) ?_,rfl,q⟩;rw[lAp];lia
def yD:V→List V→Hp→VK→Prop:=fun x vs H Q=>∃ l xs y,x=.ref l∧vs=[]∧H l=some (.lst xs)∧xs[xs.length-1]?=some y∧Q y (upd H l (.lst xs.dropLast))
theorem vQ:MtM X "list.pop" yD:=by
 intro pins s σ H x vs v us Q I rx rv h;obtain⟨l,xs,y,rfl,rfl,hH,hy,q⟩:=h;cases rx;have hus:=rv.zero;subst hus;obtain⟨z,its,n,r,hl,e⟩:=I.lstM hH;obtain⟨u,hu,ru⟩:=r.get hy;have hy':its.toArray[its.toArray.size-1]?=some u:=by
  show its.toArray[its.length-1]?=some u;rw[← Array.getElem?_toList,← hl];exact hu
 refine call_meets F.slot_list_pop ⟨_,e,rfl⟩ F.entry_list_pop (F.args_list_pop_1 _) (MeetsSeq.list_pop_last l its.toArray n u hy' (by rw[List.size_toArray];lia)) ⟨e,?_⟩;refine⟨y,_,I.lset (its':=its.dropLast) hH e ?_ r.dropLast ?_,ru,q⟩
 · show its.toArray.eraseIdxIfInBounds (its.toArray.size-1)=its.dropLast.toArray;rw[List.size_toArray,List.eraseIdxIfInBounds_toArray,lH]
 · rw[List.length_dropLast];lia
end
section
variable {prog:Program} {w:World} {A:Around} {E:VSP} {s:Shared}
set_option maxRecDepth 100000 in
end
section
variable {X:Cx}
end
end L2
namespace Att
open PySem PySem.W PySem.Calls PyProof.Rows
theorem gu {P:Params} {h:Heap}:∀ (ns:List Int) (vs:List Value),WellAll P h vs (ns.map WData.int)→IntsAre vs ns:=by
 intro ns
 induction ns with
 | nil =>
  intro vs w;rw[List.map_nil] at w;cases w;exact .nil
 | cons n ns ih =>
  intro vs w;rw[List.map_cons] at w;cases w with
  | cons a b =>
   cases a;exact .cons _ _ (ih _ b)
theorem nC {l:OpenLaw} {n:Nat} (hn:l.most=some n) {P:Params} {h:Heap} {args:List WData} {vals:List Value}
 (hpre:l.row.toRowW.claim.pre args=true) (hwl:WellAll P h vals args) :
 ∃ a vs ns,vals=[Value.ref a]∧args=[WData.list (ns.map WData.int)]∧h.get? a=some {cls:=.type "list",data:=.seq vs.toArray}∧IntsAre vs ns∧ns.length≤n:=by
 have hsh:WShape.hasAll [] args [.list .int]=true:=(pre_splitW hpre).1;have hc:l.pre.holds [] {args:=args}=true:=(pre_splitW hpre).2;obtain⟨d,r,rfl,h1,h2⟩:=hasAllW_cons hsh;obtain rfl:=hasAllW_nil h2;obtain⟨xs,rfl,h3⟩:=hasW_list h1;obtain⟨ns,rfl⟩:=items_int h3;have hlen:ns.length≤n:=by
  unfold OpenLaw.pre at hc;have h4:(WTm.not (.lt (.lit (.int (n:Int))) (.len (.arg 0)))).holds [] {args:=[.list (ns.map .int)]}=true:=by
   have h4:=(holds_andW hc).1;rw[hn] at h4;exact h4
  have h5:=condW_of h4 (w_not (w_lt w_lit (w_len_list (w_arg rfl))));rw[lMp] at h5;refine Nat.le_of_not_lt fun q=>?_;have q':(n:Int)<((ns.length:Nat):Int):=by lia
  first
   | (rw[decide_eq_true q'] at h5;exact absurd h5 (by decide))
   | (simp at h5;lia)
 cases hwl with
 | cons w1 w2 =>
  cases w2;cases w1 with
  | list ho hall=>exact⟨_,_,ns,rfl,rfl,ho,gu ns _ hall,hlen⟩
theorem nG (l:OpenLaw) (args:List WData):l.row.toRowW.claim.post args (.bool true) args=true :=
 postW_of (r:=l.row.toRowW) (X:=(true==true))
  (show WShape.has [] (.bool true) .bool=true by first | rfl | decide | simp[WShape.has,WShape.arms,WShape.armsAll])
  (show (WTm.eq .res (.lit (.bool true))).value [] {args:=args,res:=some (.bool true),after:=args}=some (.bool (true==true)) from w_eq_bool (w_res rfl) w_lit) rfl
theorem attach_call {l:OpenLaw} {n:Nat} {q:Program} {loose:List Str} {XP:(Str→Option Value)→Heap→Prop} {YP:World→Heap→Prop} {d:DefRec}
 (hn:l.most=some n) (hdf:d.params.defaults=[])
 (call:∀ (w:World) (s₀ s₁:Shared) (mg mb:SOV) (fa:Addr) (o:Obj) (pm cd doc:Value) (a:Addr) (vs:List Value) (ns:List Int),
   Ground q loose [] XP w s₀ mg mb s₁.heap→YP w s₁.heap →
   s₁.heap.get? fa=some o→o.data=.func (docDef d.name d.params d.body d.scope pm cd doc)→s₁.heap.CodeRec cd d.name→mg d.name=some (.ref fa) →
   s₁.heap.get? a=some {cls:=.type "list",data:=.seq vs.toArray}→IntsAre vs ns→ns.length≤n→s₁.gens=#[] →
   codeAny (model l.prog w) callerA (.call (.ref fa) ⟨[.ref a],[]⟩) (fun r s'=>r=.ok (.ret (.bool true))∧OldK s₁.heap s'.heap∧s'.os=s₁.os∧AllBare s'.gens) s₁) :
 WalkO q loose XP YP l.row.toRowW d [] (fun f vs=>PySem.call f vs):=by
 intro w s₀ s₁ mg mb G Y fa o pm cd doc dV kV ho hd hcd hD hmg hg args vals as hpre hlay hrd hwl hlo;obtain rfl:dV=.none:=Dflts.none hD hdf;obtain rfl:kV=.none:=Dflts.noKw hD;obtain⟨a,vs,ns,rfl,rfl,hobj,hints,hlen⟩:=nC hn hpre hwl;refine enter_call (codeAny_mono (call w s₀ s₁ mg mb fa o pm cd doc a vs ns G Y ho (fd_plain hd) hcd hmg hobj hints hlen hg) fun r s' hq=>?_);obtain⟨rfl,h2,h3,h4⟩:=hq;exact⟨.inl ⟨.bool true,.bool true,[],rfl,fun _=>rfl,.bool true,nG l _,fun _=>⟨List.Pairwise.nil,fun _ hm=>(nomatch hm)⟩⟩,h2,h3,h4⟩
section
variable {prog:Program} {w:World} {A:Around} {E:VSP} {s:Shared} {K:Frag}
end
end Att
namespace L2
open PySem PySem.Spec PyProof.Rows
theorem ng:∀ {vs:List Value} {ns:List Int},IntsAre vs ns→aO (ns.map V.int) vs:=by
 intro vs ns h
 induction h with
 | nil=>exact .nil
 | cons n t h ih=>exact .cons ⟨t,rfl⟩ ih
def wE (H:Hp):Prop:=∀ b,H b=none∨∃ o xs,H b=some (.frz o (.lst xs))
theorem qp {P:Program} {w:World} {K:Fg} {mg mb:SOV} {CX:CXT} {k:Nat} {fa a:Addr} {fd:FuncData} {x:Str} {sp:Sp} {s₁:Shared} {vs:List Value} {ns:List Int}
 (KX:K.In s₁.heap) (hns:s₁.heap.Ns mainGlobals mg) (hb:s₁.heap.Ns builtinsNs mb) (hbb:∀ x:Str,x≠"__name__"→mb x=bootBuiltins x) (hlim:s₁.heap.NoLimit) (hg:s₁.gens=#[])
 (ha:s₁.heap.get? a=some {cls:=.type "list",data:=.seq vs.toArray}) (hi:IntsAre vs ns) (hl:ns.length≤sizeLine) (hr:cV k callerA)
 (F:∀ base:Heap,K.In base→base.Ns mainGlobals mg→iG P w K mg base CX k fa fd [x] sp) (hbind:∀ (s:Shared) (u:Value),BindsTo s fd ⟨[u],[]⟩ [(x,u)])
 (hsp:∀ H:Hp,wE H→SqL K H a (ns.map V.int)→sp [.ref a] H (fun v _=>v=.bl true) fun _ _ _=>False)
 (hCX:∀ H e s',CX [] H s₁ (fun _ _ _=>False) e s'→False) :
 codeAny (model P w) callerA (.call (.ref fa) ⟨[.ref a],[]⟩) (fun r s'=>r=.ok (.ret (.bool true))∧OldK s₁.heap s'.heap∧s'.os=s₁.os∧AllBare s'.gens) s₁:=by
 have rv:=ng hi;have lenV:=hi.length;have core:∀ H:Hp,wE H→SqL K H a (ns.map V.int)→HOk P w H s₁.heap→(∀ b,H b≠none→b=a)→(H a≠none→K.lookup a=none) →
  codeAny (model P w) callerA (.call (.ref fa) ⟨[.ref a],[]⟩) (fun r s'=>r=.ok (.ret (.bool true))∧OldK s₁.heap s'.heap∧s'.os=s₁.os∧AllBare s'.gens) s₁:=by
  intro H hO hS hok hA hK;have base_of:∀ {b:Addr} {o:Obj},s₁.heap.get? b=some o→H b=none→(jz s₁.heap H).get? b=some o:=fun e n=>qy e n;have noA:∀ {b:Addr} {o:Obj} {es:Array DictEntry} {ep:Nat},s₁.heap.get? b=some o→o.data=.dict es ep→H b=none:=fun {b o es ep} e d=>by
   cases q:H b with
   | none=>rfl
   | some u =>
    have e':b=a:=hA b (by rw[q];simp);subst e';rw[ha] at e;cases e;have d':Data.seq vs.toArray _=Data.dict es ep:=d;cases d'
  have nsK:∀ {b:Addr} {m:SOV},s₁.heap.Ns b m→(jz s₁.heap H).Ns b m:=fun {b m} ⟨o,es,ep,e,d,r⟩=>⟨o,es,ep,base_of e (noA e d),d,r⟩;have hKb:K.In (jz s₁.heap H):=fun b o e=>base_of (KX b o e) (by
    cases q:H b with
    | none=>rfl
    | some u =>
      have e':b=a:=hA b (by rw[q];simp);subst e';rw[hK (by rw[q];simp)] at e;cases e)
  have hM:Mod K mg (jz s₁.heap H):=⟨hKb,nsK hns,⟨mb,nsK hb,hbb⟩,let ⟨mc,h1,h2⟩:=hlim;⟨mc,nsK h1,h2⟩⟩;have e0:tN P w K mg (jz s₁.heap H) callerA [] s₁ H:=⟨rfl,hM,fun b o e=>sP e,Nat.le_of_eq (o0 _ _),trivial,fun b hb=>absurd (show b∈([]:List Addr) from hb) (by simp),hok,.of_eq hg⟩;refine codeAny_mono ((F _ hKb (nsK hns)).run callerA [] s₁ H ⟨[.ref a],[]⟩ [.ref a] [.ref a] _ _ hr e0 (hbind s₁ (.ref a)) (.cons rfl .nil) (hsp H hO hS)) fun r s' h=>?_;cases r with
  | error e=>exact (hCX H e s' h).elim
  | ok fl =>
   cases fl with
   | next=>exact False.elim h
   | brk=>exact False.elim h
   | cont=>exact False.elim h
   | ret u =>
    obtain⟨v,H',os,bare,un,hok',r',q⟩:=h;have q':v=.bl true:=q;subst q';obtain rfl:u=Value.bool true:=r';refine⟨rfl,OldK.of_keep fun b o e=>?_,os,bare⟩;cases q:H b with
    | none=>exact un.keep b o e q (by intro z;exact absurd (show b∈([]:List Addr) from z) (by simp)) (by simp)
    | some u =>
     rcases hO b with z | ⟨ob,xs,z⟩
     · rw[q] at z;cases z
     · have z2:=un.frzs b ob _ z;obtain⟨e1,_⟩:=hok b _ z;obtain⟨e2,_⟩:=hok' b _ z2;rw[e] at e1;cases e1;exact e2
 cases hk:K.lookup a with
 | some o =>
  have e:=KX a o hk;rw[ha] at e;cases e;refine core (fun _=>none) (fun _=>.inl rfl) (.inr ⟨_,vs.toArray,_,hk,rfl,rfl,rfl,by rw[List.size_toArray,lenV];exact hl,by simpa using rv⟩) (fun b u z=>by have z':(none:Option HO)=some u:=z;cases z') (fun b z=>absurd rfl z) fun z=>absurd rfl z
 | none =>
  refine core (fun b=>if b=a then some (.frz {cls:=.type "list",data:=.seq vs.toArray} (.lst (ns.map V.int))) else none) (fun b=>?_) (.inl (.inr ⟨{cls:=.type "list",data:=.seq vs.toArray},if_pos rfl⟩)) (fun b u z=>?_) (fun b z=>?_) fun _=>hk
  · by_cases hb:b=a
    · exact .inr ⟨_,_,if_pos hb⟩
    · exact .inl (if_neg hb)
  · by_cases hb:b=a
    · have z':=(if_pos hb).symm.trans z;cases z';subst hb;exact⟨ha,by rw[lMp];exact hl,vs,_,rv,ha⟩
    · have z':=(if_neg hb).symm.trans z;cases z'
  · by_cases hb:b=a
    · exact hb
    · exact absurd (if_neg hb) z
abbrev KOf {K:Fg} {h:Heap} (_:K.In h):Fg:=K
theorem m9 {l:PySem.W.OpenLaw} {n k:Nat} {q:Program} {loose:List Str} {XP:(Str→Option Value)→Heap→Prop} {YP:World→Heap→Prop} {d:DefRec} {K:Params→Fg} {CX:World→CXT} {sp:World→Sp} {x:Str}
 (hn:l.most=some n) (hn2:n≤sizeLine) (hdf:d.params.defaults=[]) (hr:cV k callerA)
 (hY:∀ (w:World) (h:Heap),YP w h→(K w.params).In h)
 (F:∀ (w:World) (mg:SOV) (fa:Addr) (h:Heap),(K w.params).In h→h.Ns mainGlobals mg→mg d.name=some (.ref fa) →
   ∃ fd:FuncData,(∀ (s:Shared) (u:Value),BindsTo s fd ⟨[u],[]⟩ [(x,u)]) ∧
     ∀ base:Heap,(K w.params).In base→base.Ns mainGlobals mg→iG l.prog w (K w.params) mg base (CX w) k fa fd [x] (sp w))
 (hsp:∀ (w:World) (H:Hp) (a:Addr) (ns:List Int),ns.length≤n→wE H→SqL (K w.params) H a (ns.map V.int)→sp w [.ref a] H (fun v _=>v=.bl true) fun _ _ _=>False)
 (hCX:∀ (w:World) (H:Hp) (s:Shared) (e:Value) (s':Shared),CX w [] H s (fun _ _ _=>False) e s'→False) :
 PySem.W.WalkO q loose XP YP l.row.toRowW d [] (fun f vs=>PySem.call f vs):=by
 refine Att.attach_call hn hdf fun w s₀ s₁ mg mb fa o pm cd doc a vs ns G Y ho hd hcd hmg hobj hints hlen hg=>?_;have KX:=hY w _ Y;obtain⟨fd,hb,hF⟩:=F w mg fa _ KX G.T.g hmg;exact qp KX G.T.g G.T.b G.T.builtins G.T.nolimit hg hobj hints (Nat.le_trans hlen hn2) hr hF hb (fun H hO hS=>hsp w H a ns hlen hO hS) fun H e s'=>hCX w H s₁ e s'
end L2
/- THE LAST THEOREM (shape;LID,My.* are yours):
   My.Adr: a structure of the addresses that your layer names (classes,functions);My.Txt K t: a structure (Prop) of the equations over K;
   My.txt_mk:{K} {implicit addresses ..} (e1:nsIn K mainGlobals "law"=some (some (.ref f))) (e2:K.lookup f=some ⟨oc,od,.func (fnOf "law" "law" params body scope dV kV doc pm an cdv ct),sl⟩) (e3:codeIn K cdv "law"=true) ..:∃ t,My.Txt K t
set_option maxRecDepth 100000 in
set_option maxHeartbeats 0 in
theorem PySem.Challenge.cw_LID_holds:PySem.Challenge.rw_LID.Holds:=by
 w_on;o_law;k_head;(case hw=>w_witness2)
 k_fill
 refine L2.m9 (l:=PySem.Challenge.rw_LID) (n:=63) (k:=40) (x:="script") (CX:=fun w=>..) (sp:=fun _=>My.sp_law) rfl (by decide) rfl ⟨rfl,by decide,by decide⟩ (fun w h Y=>PySem.W.kIn_of Y) ?F ?S ?C
 case F =>
  intro w mg fa h KX G hmg;have T:∃ t,My.Txt (L2.KOf KX) t:=by
   dsimp only[L2.KOf]                          -- K must stand as «<heap const> w.params» for k_is;refine' My.txt_mk ?e1 ?e2 ?e3 ..
   (case e1=>PySem.W.k_is)                    -- in the order: a name -> its address -> its object -> its parts
   (case e2=>PySem.W.k_is)
   ..
  obtain⟨t,T⟩:=T;have e0:=hmg.symm.trans (PySem.W.mg_of KX G T.law);cases e0                                       -- fa is the law's own address;exact⟨_,fun s u=>.of_eq rfl,fun base kb nb=>My.law_fn T kb nb⟩     -- if «.of_eq rfl» comes too early: refine' ⟨_,?b,fun base kb nb=>My.law_fn T kb nb⟩;exact fun s u=>.of_eq rfl
 case S=>exact fun w H a ns hl hO hS=>..
 case C=>exact ..
(the tactic k_is has no namespace: write k_is) -/
namespace L2
open PySem PySem.Spec PyProof.Rows
abbrev CX0:CXT:=fun _ _ _ _ _ _=>False
abbrev E0:XK:=fun _ _ _=>False
theorem yI {X:Cx}:lR CX0 X E0:=fun _ _ _ _ _ _ _ h=>h.elim
structure Fun (K:Fg) (x qual:Str) (st:Stmt) (f:Addr) (fd:FuncData):Prop where
  ex:∃ (oc:Value) (od:Option Addr) (kV doc pm:Value) (an:Option Addr) (cdv ct:Value) (osl:Array (Option Value)),
    fd=PySem.W.fnOf x qual (cA st) (aQ st) (a9 st) .none kV doc pm an cdv ct∧K.lookup f=some ⟨oc,od,.func fd,osl⟩∧PySem.W.codeIn K cdv qual=true
  kp:PySem.W.keepIn K (.ref f)=true
section
variable {P:Program} {w:World} {K:Fg} {mg:SOV} {base:Heap}
theorem Fun.ok {x qual:Str} {st:Stmt} {f:Addr} {fd:FuncData} {N ps:List Str} {k:Nat} {sp:Sp} (F:Fun K x qual st f fd) (S:ax N ps (a9 st)) (len:∀ vs H Q E,sp vs H Q E→vs.length=ps.length)
 (hbody:∀ (cdv:Value) (A:Around) (outer:List Env) (s:Shared) (H:Hp) (vs:List V) (Q:VK) (E:XK),cV k (A.deeper (envOfC qual (a9 st) s.heap.objs.size f cdv))→sp vs H Q E →
   ∃ t,PSs (cE CX0 P w K mg base N qual (a9 st) f cdv A outer s H E).nox (aQ st) t∧t {nx:=fun _ H'=>Q .non H',rt:=Q} (eD N vs) H):iG P w K mg base CX0 (k+1) f fd ps sp:=by
 obtain⟨oc,od,kV,doc,pm,an,cdv,ct,osl,rfl,lk,hcd⟩:=F.ex;refine Ao lk hcd S len fun A outer s H vs Q E hr hsp=>?_;obtain⟨t,h,q⟩:=hbody cdv A outer s H vs Q E hr hsp;exact⟨t,h.nox,q⟩
theorem Fun.binds {x qual:Str} {st:Stmt} {f:Addr} {fd:FuncData} {ps:List Str} (F:Fun K x qual st f fd)
 (h:∀ (kV doc pm:Value) (an:Option Addr) (cdv ct:Value) (us:List Value),us.length=ps.length→bindArgs (PySem.W.fnOf x qual (cA st) (aQ st) (a9 st) .none kV doc pm an cdv ct) ⟨us,[]⟩=pure (ps.zip us)):jc K fd ps []:=by
 obtain⟨oc,od,kV,doc,pm,an,cdv,ct,osl,rfl,lk,hcd⟩:=F.ex;exact .all (h kV doc pm an cdv ct)
theorem qG {x qual:Str} {st:Stmt} {f:Addr} {oc:Value} {od an:Option Addr} {osl:Array (Option Value)} {kV doc pm cdv ct:Value} (l:K.lookup f=some ⟨oc,od,.func (PySem.W.fnOf x qual (cA st) (aQ st) (a9 st) .none kV doc pm an cdv ct),osl⟩)
 (c:PySem.W.codeIn K cdv qual=true) (k:PySem.W.keepIn K (.ref f)=true):Fun K x qual st f (PySem.W.fnOf x qual (cA st) (aQ st) (a9 st) .none kV doc pm an cdv ct):=⟨⟨oc,od,kV,doc,pm,an,cdv,ct,osl,rfl,l,c⟩,k⟩
end
theorem bS {A:Around} {k:Nat} (hr:cV k A):A.units+1<cLine:=Nat.lt_of_le_of_lt (Nat.add_le_add_left (by decide:1≤64) _) hr.units
section
variable {X:Cx}
theorem pv (i:Nat) {x:Str} {pos:Pos} (hN:X.N[i]?=some x:=by rfl) (hv:Vis X.env.scope x:=by first | exact Or.inl rfl | exact Or.inr (Or.inl rfl) | exact Or.inr (Or.inr rfl)) (hd:(x==("__debug__":Str))=false:=by decide)
 (hcd:(x==("__classdict__":Str))=false:=by decide):PE X (.Name x pos) (d9 i):=vD hN hv hd hcd
end
theorem aU {A B:Prop} (h:B):if false=true then A else B:=by
 rw[if_neg Bool.false_ne_true];exact h
theorem bj {A B:Prop} (h:A):if true=true then A else B:=by
 rw[if_pos rfl];exact h
def aj (H H':Hp):Prop:=∀ b o,H b=some o→H' b=some o
theorem aj.refl (H:Hp):aj H H:=fun _ _ h=>h
theorem aj.trans {H H1 H2:Hp} (a:aj H H1) (b:aj H1 H2):aj H H2:=fun c o h=>b c o (a c o h)
theorem aj.free {H H':Hp} (e:aj H H') {l:Addr} (h:H' l=Option.none):H l=Option.none:=by
 cases q:H l with
 | none=>rfl
 | some o =>
  rw[e l o q] at h;cases h
theorem aj.seq {K:Fg} {H H':Hp} {a:Addr} {xs:List V} (e:aj H H') (h:SqL K H a xs):SqL K H' a xs:=by
 rcases h with (h | ⟨o,h⟩) | h
 · exact .inl (.inl (e _ _ h))
 · exact .inl (.inr ⟨o,e _ _ h⟩)
 · exact .inr h
end L2
theorem eG {P:Prop} (h:∀ G:Prop,(P→G)→G):P:=h P id
set_option maxHeartbeats 4000000
namespace L2
open PySem PySem.Spec PyProof.Rows
def blk (X:Cx) (sc:Scope) (cl:List (Str×Addr)) (N':List Str) (fp:List Addr) (pins:AOs) (s:Shared) (H:Hp):Cx where
  prog:=X.prog
  w:=X.w
  K:=X.K
  mg:=X.mg
  base:=X.base
  A:=X.A
  N:=N'
  s₀:=s
  H₀:=H
  env:=compEnvC sc cl s.heap.objs.size X.env
  outer:=X.stack
  stack:=X.stack
  ex:=fp
  fn:=fun _=>false
  calm:=X.calm
  pn:=X.pn++pins
  xe:=fun _ _=>False
def cJ (cells:List (Str×Addr)):List (Str×NameKind)→List (Str×Addr)→List (Str×Addr)
  | [],acc=>acc
  | (n,k)::r,acc=>cJ cells r (if k==.free then (match cells.lookup n with | some c=>(n,c)::acc | none=>acc) else acc)
theorem kP (cells:List (Str×Addr)):∀ (ns:List (Str×NameKind)) (acc:List (Str×Addr)),(∀ x c,(x,c)∈acc→cells.lookup x=some c)→∀ x c,(x,c)∈cJ cells ns acc→cells.lookup x=some c
 | [],acc,h,x,c,m=>h x c m
 | (n,k)::r,acc,h,x,c,m=>by
  unfold cJ at m;refine kP cells r _ (fun y d q=>?_) x c m;split at q
  · split at q
    · rename_i c' e
      rcases List.mem_cons.mp q with z | z
      · cases z;exact e
      · exact h y d z
    · exact h y d q
  · exact h y d q
theorem kQ (cells:List (Str×Addr)):∀ (ns:List (Str×NameKind)) (acc:List (Str×Addr)) (x:Str) (c:Addr),(x,c)∈acc→∃ d,(x,d)∈cJ cells ns acc
 | [],acc,x,c,m=>⟨c,m⟩
 | (n,k)::r,acc,x,c,m=>by
  unfold cJ;refine kQ cells r _ x c ?_;split
  · split
    · exact mCM _ m
    · exact m
  · exact m
theorem ik (cells:List (Str×Addr)):∀ (ns:List (Str×NameKind)) (acc:List (Str×Addr)) (x:Str) (c:Addr),(x,NameKind.free)∈ns→cells.lookup x=some c→∃ d,(x,d)∈cJ cells ns acc
 | [],acc,x,c,m,e=>by cases m
 | (n,k)::r,acc,x,c,m,e=>by
  rcases List.mem_cons.mp m with z | z
  · cases z;unfold cJ;refine kQ cells r _ n c ?_;rw[if_pos (by decide),e];exact mCS
  · unfold cJ;exact ik cells r _ x c z e
theorem eQ:∀ {l:List (Str×Addr)} {x:Str} {c:Addr},(x,c)∈l→∃ d,l.lookup x=some d
 | (y,d)::r,x,c,m=>by
  by_cases h:x=y
  · subst h;exact⟨d,by simp[List.lookup_cons]⟩
  · rcases List.mem_cons.mp m with z | z
    · cases z;exact absurd rfl h
    · obtain⟨d',e⟩:=eQ z;refine⟨d',?_⟩;have:(x==y)=false:=by simpa using h
      simp[List.lookup_cons,this,e]
theorem gk (env:Env):∀ (ns:List (Str×NameKind)) (acc:List (Str×Addr)),(∀ y∈ns,y.2=.free→∃ c,env.cells.lookup y.1=some c) →
 (forIn (m:=Sem) ns acc fun (x:Str×NameKind) r=>if (x.2==.free)=true then (do let a ← cellOf env x.1;pure (ForInStep.yield ((x.1,a)::r))) else pure (ForInStep.yield r))=pure (cJ env.cells ns acc)
 | [],acc,_=>rfl
 | (n,k)::r,acc,h=>by
  rw[List.forIn_cons];have ih:=fun acc=>gk env r acc fun y hy=>h y (mCM _ hy);unfold cJ;by_cases hk:k=.free
  · subst hk;obtain⟨c,e⟩:=h (n,.free) mCS rfl;have e':env.cells.lookup n=some c:=e;simp only[cellOf,e',beq_self_eq_true,if_true,pure_bind];exact ih _
  · have hb:(k==NameKind.free)=false:=by simpa using hk
    simp only[hb,Bool.false_eq_true,if_false,pure_bind];exact ih _
theorem lK {env:Env} {sc:Scope} (h:∀ y∈sc.names,y.2=.free→∃ c,env.cells.lookup y.1=some c):closureFor sc env=pure (cJ env.cells sc.names []):=by
 have q:=gk env sc.names [] h;unfold closureFor
 first
  | (rw[show (forIn (m:=Sem) sc.names ([]:List (Str×Addr)) _)=_ from q];rfl)
  | (simp only[bind_pure];exact q)
  | exact q
section
variable {X:Cx} {pins:AOs} {σ:St} {H:Hp} {s:Shared}
theorem eU {sc:Scope} {x:Str} {c:Addr} (e:(cJ X.env.cells sc.names []).lookup x=some c):X.env.cells.lookup x=some c :=
 kP _ _ _ (fun _ _ m=>by cases m) x c (PySem.mem_of_lookup e)
def fL (k:Nat) (outs:List (Nat×Str)) (σ:St):St:=List.replicate k none++outs.map fun p=>(σ[p.1]?).getD none
def eW (own:List Str) (outs:List (Nat×Str)):List Str:=own++outs.map (·.2)
structure aL (X:Cx) (sc:Scope) (own:List Str) (outs:List (Nat×Str)):Prop where
  kind:sc.kind=.function
  nocell:∀ y∈sc.names,y.2≠.cell
  loc:∀ y∈sc.names,y.2=.local→sc.names.lookup y.1=some .local
  fr:∀ y∈sc.names,y.2=.free→X.env.kindOf y.1=some .cell∨X.env.kindOf y.1=some .free
  outNo:∀ p∈outs,(relabel sc X.env).names.lookup p.2≠some .local
  outN:∀ p∈outs,X.N[p.1]?=some p.2∧(X.env.scope.names.lookup p.2=some .cell∨X.env.scope.names.lookup p.2=some .free)
theorem eR {α:Type}:∀ {l:List (Str×α)} {x:Str} {k:α},l.lookup x=some k→(x,k)∈l
 | (y,d)::r,x,k,e=>by
  by_cases h:x=y
  · subst h;simp[List.lookup_cons] at e;subst e;exact mCS
  · have:(x==y)=false:=by simpa using h
    simp[List.lookup_cons,this] at e;exact mCM _ (eR e)
 | [],x,k,e=>by simp at e
theorem d8 {sc:Scope} {env:Env} {x:Str} {k:NameKind} (nc:∀ y∈sc.names,y.2≠.cell) (hk:k=.cell∨k=.free) (e:(relabel sc env).names.lookup x=some k):(x,NameKind.free)∈sc.names:=by
 have m:=eR e;unfold relabel at m;obtain⟨⟨n,k'⟩,m1,m2⟩:=List.mem_map.mp m;by_cases c:(k'==NameKind.free&&env.scope.kind==.function&&env.kindOf n==some .cell)=true
 · dsimp only at m2;rw[if_pos c] at m2;cases m2;have:k'=.free:=by
    have:=(Bool.and_eq_true_iff.mp (Bool.and_eq_true_iff.mp c).1).1
    simpa using this
   subst this;exact m1
 · dsimp only at m2;rw[if_neg c] at m2;cases m2
   rcases hk with z | z
   · subst z;exact absurd rfl (nc _ m1)
   · subst z;exact m1
theorem sY {sc:Scope} {own:List Str} {outs:List (Nat×Str)} {fp:List Addr} {h':Heap} {t':Nat} (I:Inv X pins σ H s) (S:aL X sc own outs) (hf:∀ b∈fp,ip X pins H b) (hfo:∀ b∈fp,b<s.heap.objs.size)
 (hn:h'.Ns s.heap.objs.size fun _=>none) (hk:∀ b o,s.heap.get? b=some o→h'.get? b=some o) :
 Inv (blk X sc (cJ X.env.cells sc.names []) (eW own outs) fp pins s H) [] (fL own.length outs σ) H {s with heap:=h',toks:=t'}:=by
 have hcells:∀ y∈sc.names,y.2=.free→∃ c,X.env.cells.lookup y.1=some c:=fun y hy e=>I.ok.has y.1 (S.fr y hy e);have ltL:∀ b,b<s.heap.objs.size→b≠s.heap.objs.size:=fun b hb=>Nat.ne_of_lt hb;refine⟨⟨I.mod,?_,I.ok.glob,I.ok.blt,Nat.le_refl _,fun x y c e1 e2=>I.ok.inj x y c (eU e1) (eU e2),fun x hx=>?_,fun x c z _=>absurd z Bool.false_ne_true,I.ok.hd,I.ok.frames,.inl rfl,fun b hb=>⟨ltL b (hfo b hb),fun x c e=>(hf b hb).2.2.2.2.1 x c (eU e)⟩,I.bs,
     Nat.le_trans I.ok.bsz I.sz,fun b o e hb=>?_,fun b hb z=>?_,I.stack,I.stkFree⟩,rfl,I.bare,Un.kept hk,⟨_,hn,fun i x v e1 e2 e3=>?_⟩,fun x c e=>?_,I.hok.fresh (Nat.le_refl _),fun x c e=>I.freeC x c (eU e),fun p hp=>?_,I.hok.kept hk,?_⟩
 · exact S.kind
 · have hm:(x,NameKind.free)∈sc.names:=by
    rcases hx with e | e
    · exact d8 S.nocell (.inl rfl) e
    · exact d8 S.nocell (.inr rfl) e
   obtain⟨c,e⟩:=hcells (x,.free) hm rfl;obtain⟨d,m⟩:=ik X.env.cells sc.names [] x c hm e;exact eQ m
 · rcases (hf b hb).2.2.2.1 with z | z
   · exact I.ok.noex b o e z
   · exact absurd (Nat.lt_of_lt_of_le (Heap.lt_size e) (Nat.le_trans I.ok.bsz z)) (Nat.lt_irrefl _)
 · rcases List.mem_cons.mp (I.stkSub b z) with e | e
   · exact (hf b hb).2.1 e
   · exact (hf b hb).2.2.1 e
 · -- a name that is seen
   have e2':i<(fL own.length outs σ).length:=(gES.mp e2).1;by_cases hi:i<own.length
   · unfold fL at e2;rw[List.getElem?_append_left (by simpa using hi),List.getElem?_replicate] at e2;split at e2 <;> cases e2
   · have hi':own.length≤i:=Nat.not_lt.mp hi;unfold fL at e2;rw[List.getElem?_append_right (by simpa using hi'),List.length_replicate,gEM] at e2;have e1':(eW own outs)[i]?=some x:=e1;unfold eW at e1';rw[List.getElem?_append_right hi',gEM] at e1';cases q:outs[i-own.length]? with
     | none=>rw[q] at e1';cases e1'
     | some p =>
      rw[q] at e1' e2;have ex:p.2=x:=Option.some.inj e1';have ev:(σ[p.1]?).getD none=some v:=Option.some.inj e2;have hσ:σ[p.1]?=some (some v):=by
       cases z:σ[p.1]? with
       | none=>rw[z] at ev;cases ev
       | some o=>rw[z] at ev;exact congrArg some ev
      obtain⟨hN,hkd⟩:=S.outN p (mGE q);rw[ex] at hN hkd;obtain⟨m,_,hl⟩:=I.loc;obtain⟨u,r,l⟩:=hl p.1 x v hN hσ (hkd.elim (fun z=>.inr (.inl z)) fun z=>.inr (.inr z));refine⟨u,r,?_⟩
      rcases l with ⟨k,_⟩ | ⟨_,c,ec,z⟩
      · have k':X.env.scope.names.lookup x=some .local:=k
        rcases hkd with y | y <;> (rw[k'] at y;cases y)
      · have hloc:(relabel sc X.env).names.lookup x=some .local∨(relabel sc X.env).names.lookup x=some .cell∨(relabel sc X.env).names.lookup x=some .free:=e3;have zc:h'.IsCell c (some u):=by
         obtain⟨o,ho,hd⟩:=z;exact⟨o,hk c o ho,hd⟩
        rcases hloc with y | y
        · -- the block binds the name itself: then the slot is not the outer one's;excluded by the caller
          exact absurd y (fun y=>S.outNo p (mGE q) (by rw[ex];exact y))
        · have hm:(x,NameKind.free)∈sc.names:=by
           rcases y with e | e
           · exact d8 S.nocell (.inl rfl) e
           · exact d8 S.nocell (.inr rfl) e
          obtain⟨d,md⟩:=ik X.env.cells sc.names [] x c hm ec;obtain⟨d',ed⟩:=eQ md;have e0:=eU (X:=X) (sc:=sc) ed;rw[ec] at e0;have e0':c=d':=Option.some.inj e0;subst e0';exact .inr ⟨y,c,ed,zc⟩
 · obtain⟨v,o,ho,hd⟩:=I.cell x c (eU e);exact⟨v,o,hk c o ho,hd⟩
 · have hp':p∈X.pn++pins:=by
    rcases mAp.mp hp with z | z
    · exact z
    · cases z
   obtain⟨e,n,ne,nf,d⟩:=I.pin p hp';refine⟨hk p.1 p.2 e,n,ltL p.1 (Heap.lt_size e),fun z=>?_,d⟩
   rcases List.mem_cons.mp (I.stkSub p.1 z) with y | y
   · exact ne y
   · exact nf y
 · show (fL own.length outs σ).length=(eW own outs).length;unfold fL eW;simp
end
abbrev qx (ifs:List Expr) (env:Env):Sem Bool :=
  forIn ifs true fun c r=>if r=true then do let ok ← isTrue c env (eval c env);pure (ForInStep.yield ok) else pure (ForInStep.yield r)
def rj (X:Cx) (ifs:List Expr) (t:TT):Prop :=
  ∀ (pins:AOs) (s:Shared) (σ:St) (H:Hp) (Q:Bool→Hp→Prop),Inv X pins σ H s→t σ H Q→wpAny (model X.prog X.w) X.A (qx ifs X.env) (TP X pins σ Q) X.xe s
def rR:TT:=fun _ H Q=>Q true H
theorem c6 {X:Cx}:rj X [] rR:=fun pins s σ H Q I h=>wpAny_tests_nil ⟨H,I,h⟩
theorem cC {X:Cx} {c:Expr} {t:TT} (hc:PT X c t):rj X [c] t:=fun pins s σ H Q I h=>wpAny_tests_one (hc pins s σ H Q I h)
theorem qo {prog:Program} {w:World} {A:Around} {R:Result→Shared→Prop} {s:Shared} {elt tg iter:Expr} {ifs:List Expr} {sc:Scope} {pos:Pos} {it acc:Value} {env:Env} (J:Nat→Shared→Prop)
 (turn:∀ n s,J n s→wpAny (model prog w) A (pyNext it) (fun r s1=>(r=none∧R (.ok .next) s1)∨∃ v,r=some v ∧
   wpAny (model prog w) A (letOwnedTupleGo tg it v) (fun _ s2=>wpAny (model prog w) A (assign tg env v) (fun _ s3=>wpAny (model prog w) A (qx ifs env) (fun ok s4 =>
     (ok=false∧∃ m,m<n∧J m s4)∨(ok=true∧wpAny (model prog w) A (eval elt env) (fun x s5=>wpAny (model prog w) A (call (.builtin "list.append") [acc,x]) (fun _ s6=>∃ m,m<n∧J m s6) (fun _ _=>False) s5) (fun _ _=>False) s4))
     (fun _ _=>False) s3) (fun _ _=>False) s2) (fun _ _=>False) s1) (fun _ _=>False) s)
 (n:Nat) (h:J n s):codeAny (model prog w) A (.compLoop (.ListComp elt [⟨tg,iter,ifs,0⟩] sc pos) 0 it acc env) R s:=by
 refine codeAny_loop rfl J (fun n s hJ=>?_) n h;show wpAny _ _ (Sem.onRaise (compTurn (.ListComp elt [⟨tg,iter,ifs,0⟩] sc pos) 0 it acc env) (fun x=>do noteFrame x env;theTreesLotGoes x)) _ _ s;refine wpAny_noted ?_;rw[compTurn_list];refine wB (wpAny_standAt (wB (wpAny_mono (turn n s hJ) (fun r s1 h1=>?_) fun _ _ f=>f.elim)))
 rcases h1 with ⟨hr,h1⟩ | ⟨v,hr,h1⟩
 · subst hr;exact wP h1
 · subst hr;refine wB (wpAny_mono h1 (fun _ s2 h2=>?_) fun _ _ f=>f.elim);refine wB (wpAny_mono h2 (fun _ s3 h3=>?_) fun _ _ f=>f.elim);refine wB (wpAny_mono h3 (fun ok s4 h4=>?_) fun _ _ f=>f.elim)
   rcases h4 with ⟨e,h4⟩ | ⟨e,h4⟩
   · subst e;exact wP ⟨rfl,h4⟩
   · subst e;refine wB (wB (wpAny_mono h4 (fun x s5 h5=>?_) fun _ _ f=>f.elim));exact wB (wpAny_mono h5 (fun _ s6 h6=>wP (wP ⟨rfl,h6⟩)) fun _ _ f=>f.elim)
def tLC (wi:TI) (k:Nat) (outs:List (Nat×Str)) (g:TG) (tc:TT) (te:TE):TE:=fun σ H Q=>wi σ H fun J H1=>∀ D,H1 D=none →
  ∃ W:Nat→Nat→St→Hp→Prop,(∃ m,W 0 m (fL k outs σ) (upd H1 D (.lst [])))∧∀ i m σ' H',W i m σ' H' →
    (J.stop i H'∧Q (.ref D) H')∨(J.go i H'∧∃ N:St→Hp→Prop,(∀ σ2 H2,N σ2 H2→∃ m',m'<m∧W (i+1) m' σ2 H2)∧∀ x H2,J.yld i H' x H2→g x σ' H2 fun σ3 H3=>tc σ3 H3 fun b H4 =>
      if b=true then te σ3 H4 fun v H5=>∃ ys,H5 D=some (.lst ys)∧ys.length<sizeLine∧N σ3 (upd H5 D (.lst (ys++[v]))) else N σ3 H4)
set_option maxHeartbeats 8000000 in
theorem mF {X:Cx} {elt tg iter:Expr} {ifs:List Expr} {sc:Scope} {pos cpos:Pos} {wi:TI} {g:TG} {tc:TT} {te:TE} {own:List Str} {outs:List (Nat×Str)} {use:Option (Value→Sem Unit)} {PQ:VSP} {pins:AOs} {s:Shared} {σ:St} {H:Hp} {Q:VK} (hc:X.calm=true) (S:aL X sc own outs) (hi:PI X tg iter wi)
 (hb:∀ (fp:List Addr) (pins:AOs) (s:Shared) (H:Hp),PG (blk X sc (cJ X.env.cells sc.names []) (eW own outs) fp pins s H) tg g ∧
   rj (blk X sc (cJ X.env.cells sc.names []) (eW own outs) fp pins s H) ifs tc∧PE (blk X sc (cJ X.env.cells sc.names []) (eW own outs) fp pins s H) elt te)
 (hs:∀ x,foldedSetIterable iter X.env x=pure x) (I:Inv X pins σ H s) (h:tLC wi own.length outs g tc te σ H Q)
 (fin:∀ (D c:Addr) (m6:SOV) (H5:Hp) (s6:Shared),Inv X pins σ H5 s6→s6.heap.Ns c m6→H5 c=none→X.env.locals≠c→X.s₀.heap.objs.size≤c→(∀ x c',X.env.cells.lookup x=some c'→c'≠c)→(∀ p∈X.pn++pins,p.1≠c)→Q (.ref D) H5 →
   compPost (model X.prog X.w) X.A X.xe use PQ (.ref D) c (.ok .next) s6) :
 wpAny (model X.prog X.w) X.A (comprehension (.ListComp elt [⟨tg,iter,ifs,0⟩] sc pos) sc X.env cpos (newList []) false (eval iter X.env) use) PQ X.xe s:=by
 have hcl:closureFor sc X.env=pure (cJ X.env.cells sc.names []):=lK fun y hy e=>I.ok.has y.1 (S.fr y hy e);refine wpAny_comprehension_free (use:=use) rfl hs hcl S.kind S.loc (thn (hi pins s σ H _ I h) fun v s1 h1=>thn h1 fun itv s2 h2=>?_);obtain⟨it,fp,tn,J,H2,e,I2,T,st2,f2,h2⟩:=h2;subst e;refine wpAny_newObj_type ?_;generalize hD:s2.heap.objs.size=D;have fr:H2 D=none:=by rw[← hD];exact I2.fresh
 obtain⟨W,⟨m0,w0⟩,turn⟩:=h2 D fr;have I3:Inv X pins σ (upd H2 D (.lst [])) {s2 with heap:=s2.heap.push {cls:=.type "list",data:=.seq ([]:List Value).toArray}}:=by
  have q:=I2.lnew (t':=s2.toks) (ys:=[]) (its:=[]) .nil (Nat.zero_le _);rw[hD] at q;exact q
 have hfp:∀ b∈fp,b<s2.heap.objs.size:=fun b hb=>by
  obtain⟨o,e,_⟩:=T.obj _ _ st2 b hb;exact Heap.lt_size e
 have f3:∀ b∈fp,ip X pins (upd H2 D (.lst [])) b:=fun b hb=>⟨by rw[aa (by rw[← hD];exact Nat.ne_of_lt (hfp b hb))];exact (f2 b hb).1,(f2 b hb).2⟩;generalize hS:({s2 with heap:=s2.heap.push {cls:=.type "list",data:=.seq ([]:List Value).toArray}}:Shared)=s3 at I3;have k3:∀ b o,s2.heap.get? b=some o→s3.heap.get? b=some o:=fun b o e=>by rw[← hS];exact hpS _ e
 have z3:s2.heap.objs.size≤s3.heap.objs.size:=by rw[← hS];show _≤(s2.heap.push _).objs.size;rw[Heap.size_push];exact Nat.le_succ _
 have st3:tn 0 s3.heap:=T.keep _ _ _ st2 fun b _ o e=>k3 b o e;refine wpAny_newFunctionEnv S.nocell (fun y hy=>by cases hy) (fun h4 hn4 sb4=>?_) S.kind;have k4:∀ b o,s3.heap.get? b=some o→h4.get? b=some o:=fun b o e=>sb4.extBut b o (Nat.ne_of_lt (Heap.lt_size e)) (hpS _ e);have hn4':h4.Ns s3.heap.objs.size fun _=>none:=by
  have q:=hn4;simp only[List.reverse_nil,List.lookup_nil] at q;exact q
 have I4:=sY (t':=s3.toks+([]:List (Str×Value)).length) I3 S f3 (fun b hb=>Nat.lt_of_lt_of_le (hfp b hb) z3) hn4' k4;have st4:tn 0 h4:=T.keep _ _ _ st3 fun b _ o e=>k4 b o e;obtain⟨hg,hif,he⟩:=hb fp pins s3 (upd H2 D (.lst []));generalize hY:blk X sc (cJ X.env.cells sc.names []) (eW own outs) fp pins s3 (upd H2 D (.lst []))=Y at I4 hg hif he;have yenv:Y.env=compEnvC sc (cJ X.env.cells sc.names []) s3.heap.objs.size X.env:=by rw[← hY];rfl
 have statY:∀ {H':Hp},(∀ b∈fp,H' b=none)→∀ b∈fp,ip Y [] H' b:=fun {H'} hn b hb=>by
  subst hY;obtain⟨_,a1,a2,a3,a4,a5⟩:=f3 b hb;refine⟨hn b hb,Nat.ne_of_lt (Nat.lt_of_lt_of_le (hfp b hb) z3),fun z=>?_,.inl hb,fun x c e=>a4 x c (eU e),fun p hp=>?_⟩
  · rcases List.mem_cons.mp (I3.stkSub b z) with y | y
    · exact a1 y
    · exact a2 y
  · rcases mAp.mp hp with z | z
    · exact a5 p z
    · cases z
 have loop:codeAny (model X.prog X.w) X.A (.compLoop (.ListComp elt [⟨tg,iter,ifs,0⟩] sc pos) 0 (.ref it) (.ref D) Y.env) (compPost (model X.prog X.w) X.A X.xe use PQ (.ref D) s3.heap.objs.size)
  {s3 with heap:=h4,toks:=s3.toks+([]:List (Str×Value)).length}:=by
  have hP:Y.prog=X.prog:=by rw[← hY];rfl
  have hw:Y.w=X.w:=by rw[← hY];rfl
  have hA:Y.A=X.A:=by rw[← hY];rfl
  have hK:Y.K=X.K:=by rw[← hY];rfl
  have hxe:Y.xe=fun _ _=>False:=by rw[← hY];rfl
  have hcm:Y.calm=true:=by rw[← hY];exact hc
  rw[← hP,← hw,← hA];rw[← hP,← hw,← hK] at T;refine qo (fun n s'=>∃ i σ' H',Inv Y [] σ' H' s'∧tn i s'.heap∧(∀ b∈fp,H' b=none)∧W i n σ' H') ?_ m0 ⟨0,_,_,I4,st4,fun b hb=>(f3 b hb).1,w0⟩;rintro n s5 ⟨i,σ5,H5,I5,st5,fr5,w5⟩
  rcases turn i n σ5 H5 w5 with ⟨stop,q⟩ | ⟨go,N,hN,step⟩
  · refine thn (T.done Y rfl rfl rfl hcm i [] s5 σ5 H5 _ I5 (statY fr5) st5 stop) fun r s6 zz97=>?_;obtain⟨hr,I6⟩:=zz97;refine .inl ⟨hr,?_⟩;obtain⟨m6,hn6,_⟩:=I6.loc;have yl:Y.env.locals=s3.heap.objs.size:=by rw[yenv];rfl
    have u6:Un (frs X.stack) fp (upd H2 D (.lst [])) H5 s3.heap s6.heap:=by
     have q:=I6.base;subst hY;exact q
    have I7:Inv X pins σ H5 s6:=by
     refine I3.call' (s':=s6) (ch:=fp) ?_ u6 ?_ I6.bare fun b hb=>?_
     · have q:=I6.os;subst hY;exact q
     · intro a o e;have q:=I6.hok a o e;subst hY;exact q
     · obtain⟨_,a1,a2,a3,a4,a5⟩:=f3 b hb;exact⟨a3,a1,a4,a5⟩
    rw[hP,hw,hA];refine fin D s3.heap.objs.size m6 H5 s6 I7 (by rw[← yl];exact hn6) (by rw[← yl];exact I6.free) (Nat.ne_of_lt I3.lt) I3.sz (fun x c e=>?_) (fun p hp=>Nat.ne_of_lt (Heap.lt_size (I3.pin p hp).1)) q;obtain⟨v,o,z,_⟩:=I3.cell x c e;exact Nat.ne_of_lt (Heap.lt_size z)
  · refine thn (T.item Y rfl rfl rfl hcm i [] s5 σ5 H5 _ I5 (statY fr5) st5 go) fun r s6 zz98=>?_;obtain⟨u,hr,h6⟩:=zz98;refine .inr ⟨u,hr,?_⟩;refine thn h6 fun _ s7 zz99=>?_;obtain⟨x,H7,I7,r7,y7,st7,fr7⟩:=zz99;have I7':=I7.pinned (statY fr7) (T.obj _ _ st7);have pinsOk:∀ {σ8:St} {H8:Hp} {s8:Shared},Inv Y ([]++gW fp s7.heap) σ8 H8 s8→N σ8 H8→∃ m,m<n∧∃ i σ' H',Inv Y [] σ' H' s8∧tn i s8.heap∧(∀ b∈fp,H' b=none)∧W i m σ' H':=fun {σ8 H8 s8} I8 n8=>by
     obtain⟨m',hm,w8⟩:=hN σ8 H8 n8;refine⟨m',hm,i+1,σ8,H8,I8.unpinned,T.keep _ _ _ st7 fun b hb o e=>(I8.pin (b,o) (List.mem_append_right _ (List.mem_append_right _ (dv hb e)))).1,fun b hb=>?_,w8⟩;obtain⟨o,e,d⟩:=T.obj _ _ st7 b hb;exact (I8.pin (b,o) (List.mem_append_right _ (List.mem_append_right _ (dv hb e)))).2.1
    have toF:∀ {α:Type} {t:Sem α} {Q':α→Shared→Prop} {s':Shared},wpAny (model Y.prog Y.w) Y.A t Q' Y.xe s'→wpAny (model Y.prog Y.w) Y.A t Q' (fun _ _=>False) s':=fun {α t Q' s'} z=>wpAny_mono z (fun _ _ a=>a) fun _ _ a=>by rw[hxe] at a;exact a
    refine toF (thn (hg _ s7 σ5 H7 x u _ I7' r7 (step x H7 y7)) fun _ s8 zz100=>?_);obtain⟨σ8,H8,I8,q8⟩:=zz100;refine toF (thn (hif _ s8 σ8 H8 _ I8 q8) fun ok s9 zz101=>?_);obtain⟨H9,I9,q9⟩:=zz101;cases ok with
    | false =>
     rw[if_neg Bool.false_ne_true] at q9;exact .inl ⟨rfl,pinsOk I9 q9⟩
    | true =>
     rw[if_pos rfl] at q9;refine .inr ⟨rfl,toF (thn (he _ s9 σ8 H9 _ I9 q9) fun y s10 zz102=>?_)⟩;obtain⟨v,H10,I10,r10,ys,hy,hz,n10⟩:=zz102;have ap:=iR (X:=Y) _ s10 σ8 H10 (.ref D) [v] (.ref D) [y] (fun _ H'=>N σ8 H') I10 rfl (.cons r10 .nil) ⟨D,ys,v,rfl,rfl,hy,hz,n10⟩;refine toF (thn ap fun _ s11 zz103=>?_);obtain⟨_,H11,I11,_,n11⟩:=zz103;exact pinsOk I11 n11
 rw[yenv] at loop;refine codeAny_compStart_list ?_ (T.self _ 0 _ _ _ st4 ?_)
 · exact loop
 · exact loop
theorem eE {X:Cx} {elt tg iter:Expr} {ifs:List Expr} {sc:Scope} {pos:Pos} {wi:TI} {g:TG} {tc:TT} {te:TE} {own:List Str} {outs:List (Nat×Str)} (hc:X.calm=true) (S:aL X sc own outs) (hi:PI X tg iter wi)
 (hb:∀ (fp:List Addr) (pins:AOs) (s:Shared) (H:Hp),PG (blk X sc (cJ X.env.cells sc.names []) (eW own outs) fp pins s H) tg g ∧
   rj (blk X sc (cJ X.env.cells sc.names []) (eW own outs) fp pins s H) ifs tc∧PE (blk X sc (cJ X.env.cells sc.names []) (eW own outs) fp pins s H) elt te)
 (hs:∀ x,foldedSetIterable iter X.env x=pure x:=by intro _;rfl):PE X (.ListComp elt [⟨tg,iter,ifs,0⟩] sc pos) (tLC wi own.length outs g tc te):=by
 intro pins s σ H Q I h;rw[eval_ListComp];exact mF hc S hi hb hs I h fun D c m6 H5 s6 I6 n6 f6 cl sz cc cp q=>⟨m6,n6,fun h7 sb7=>⟨.ref D,H5,I6.turned (t':=s6.toks) (fun b o hb e=>(sb7.2 b hb).trans e) f6 cl.symm (.inr sz) cc cp,rfl,q⟩⟩
def Itx (x:Str):It:=⟨fun i _=>i<x.cps.size,fun i H v H'=>H'=H∧∃ c,x.cps.toList[i]?=some c∧v=.str ⟨#[c]⟩,fun i _=>x.cps.size≤i⟩
def BI (tl:TE):TI:=fun σ H R=>tl σ H fun v H1=>∃ x,v=.str x∧R (Itx x) H1
structure de (J:It) (xs:List V) (Ok:Hp→Prop):Prop where
  go:∀ i H,Ok H→i<xs.length→J.go i H
  yld:∀ i H x H',J.go i H→Ok H→J.yld i H x H'→H'=H∧xs[i]?=some x
  stop:∀ i H,Ok H→xs.length≤i→J.stop i H
theorem aK {K:Fg} {a:Addr} {xs:List V}:de (Itl K a) xs (fun H=>SqL K H a xs) :=
 ⟨fun i H q hi=>⟨xs,xs[i],q,by simp[hi]⟩,fun i H x H' _ q y=>⟨y.1,y.2 xs q⟩,fun i H q hi=>⟨xs,q,hi⟩⟩
theorem ca {K:Fg} {a:Addr} {xs:List V}:de (Itt K a) xs (fun H=>SqT K H a xs) :=
 ⟨fun i H q hi=>⟨xs,xs[i],q,by simp[hi]⟩,fun i H x H' _ q y=>⟨y.1,y.2 xs q⟩,fun i H q hi=>⟨xs,q,hi⟩⟩
def cD (lo:Int) (n:Nat):List V:=(List.range n).map fun (i:Nat)=>V.int (lo+(i:Int))
theorem bv {lo:Int} {n:Nat}:de (Itr lo n) (cD lo n) (fun _=>True) :=
 ⟨fun i H _ hi=>by show i<n;simpa [cD] using hi,fun i H v H' hg _ y=>by
   obtain⟨e,h⟩:=y;refine⟨e,?_⟩;have hi:i<n:=hg;rw[h];simp[cD,hi],fun i H _ hi=>by show n≤i;simpa [cD] using hi⟩
theorem wq {J:It} {xs:List V} {Ok:Hp→Prop} (Y:de J xs Ok) {g:TG} {tb:TS} {D:dY} {σ:St} {H:Hp} (Pv:Nat→St→Hp→Prop) (h0:Pv 0 σ H) (hl:∀ i σ H,i≤xs.length→Pv i σ H→Ok H)
 (hs:∀ i x σ H,xs[i]?=some x→Pv i σ H→g x σ H fun σ2 H2=>tb {D with nx:=Pv (i+1),ct:=Pv (i+1),bk:=D.nx} σ2 H2) (hd:∀ σ H,Pv xs.length σ H→D.nx σ H) :
 ∃ W:Nat→Nat→St→Hp→Prop,(∃ m,W 0 m σ H)∧∀ i m σ H,W i m σ H →
  (J.stop i H∧D.nx σ H)∨(J.go i H∧∃ N:St→Hp→Prop,(∀ σ' H',N σ' H'→∃ m',m'<m∧W (i+1) m' σ' H')∧∀ x H',J.yld i H x H'→g x σ H' fun σ2 H2=>tb {D with nx:=N,ct:=N,bk:=D.nx} σ2 H2):=by
 refine⟨fun i m σ H=>m=xs.length-i∧i≤xs.length∧Pv i σ H,⟨xs.length,by simp,Nat.zero_le _,h0⟩,?_⟩;rintro i m σ H ⟨rfl,hi,p⟩;have q:=hl i σ H hi p;by_cases hlt:i<xs.length
 · refine .inr ⟨Y.go i H q hlt,Pv (i+1),fun σ' H' p'=>⟨xs.length-(i+1),Nat.sub_succ_lt_self _ _ hlt,rfl,hlt,p'⟩,fun x H' y=>?_⟩;obtain⟨e,y2⟩:=Y.yld i H x H' (Y.go i H q hlt) q y;subst e;exact hs i x σ _ y2 p
 · have e:i=xs.length:=by lia
   subst e;exact .inl ⟨Y.stop _ H q (Nat.le_refl _),hd σ H p⟩
section
variable {X:Cx}
end
theorem eo {α:Type}:∀ {l:List α},l.length=1→∃ a,l=[a]:=by
 intro l h;cases l with
 | nil=>cases h
 | cons a r=>cases List.eq_nil_of_length_eq_zero (Nat.succ.inj h);exact⟨a,rfl⟩
theorem fW {α:Type}:∀ {l:List α},l.length=2→∃ a b,l=[a,b]:=by
 intro l h;cases l with
 | nil=>cases h
 | cons a r=>obtain⟨b,rfl⟩:=eo (Nat.succ.inj h);exact⟨a,b,rfl⟩
theorem gs {α:Type}:∀ {l:List α},l.length=3→∃ a b c,l=[a,b,c]:=by
 intro l h;cases l with
 | nil=>cases h
 | cons a r=>obtain⟨b,c,rfl⟩:=fW (Nat.succ.inj h);exact⟨a,b,c,rfl⟩
theorem nR {α:Type}:∀ {l:List α},l.length=4→∃ a b c d,l=[a,b,c,d]:=by
 intro l h;cases l with
 | nil=>cases h
 | cons a r=>obtain⟨b,c,d,rfl⟩:=gs (Nat.succ.inj h);exact⟨a,b,c,d,rfl⟩
section
variable {CX:CXT} {P:Program} {w:World} {K:Fg} {mg:SOV} {base:Heap} {N:List Str} {q:Str} {sc:Scope} {f:Addr} {cd:Value} {A:Around} {outer:List Env} {s:Shared} {H:Hp} {E:XK}
theorem bC:(cE CX P w K mg base N q sc f cd A outer s H E).nox.K=K:=rfl
end
structure Fn (P:Program) (w:World) (K:Fg) (mg:SOV) (base:Heap) (x:Str) (k:Nat) (ps:List Str) (sp:Sp):Prop where
  ex:∃ (f:Addr) (fd:FuncData),iG P w K mg base CX0 k f fd ps sp∧mg x=some (.ref f)∧PySem.W.keepIn K (.ref f)=true∧jc K fd ps []
def Def (K:Fg) (mg:SOV) (x:Str) (st:Stmt):Prop:=∃ (f:Addr) (fd:FuncData),Fun K x x st f fd∧mg x=some (.ref f)
section
variable {X:Cx} {x:Str} {p pos:Pos} {e:Expr} {es:List Expr} {t:TA} {k:Nat} {ps:List Str} {sp:Sp}
theorem ac (F:Fn X.prog X.w X.K X.mg X.base x k ps sp) (hr:cV k X.A) (hg:Gl X x) (ha:PA X (e::es) t) (hdb:(x==("__debug__":Str))=false:=by decide)
 (he:starEach (e::es) X.env=(false,eval e X.env)::starEach es X.env:=by rfl) (hpl:(backTo pos (starEach es X.env)).any (·.1)=false:=by rfl):PE X (.Call (.Name x p) (e::es) [] pos) (gJ sp [] E0 t):=by
 obtain⟨f,fd,G,hm,hk,hb⟩:=F.ex;exact sI G hr hg hm hk hb .nil yI ha (hdb:=hdb) (he:=he) (hpl:=hpl)
end
section
variable {P:Program} {w:World} {K:Fg} {mg:SOV} {base:Heap}
theorem Def.fn {x:Str} {st:Stmt} {N ps:List Str} {k:Nat} {sp:Sp} (D:Def K mg x st) (S:ax N ps (a9 st)) (len:∀ vs H Q E,sp vs H Q E→vs.length=ps.length)
 (hb:∀ (kV doc pm:Value) (an:Option Addr) (cdv ct:Value) (us:List Value),us.length=ps.length→bindArgs (PySem.W.fnOf x x (cA st) (aQ st) (a9 st) .none kV doc pm an cdv ct) ⟨us,[]⟩=pure (ps.zip us))
 (hbody:∀ (f:Addr) (cdv:Value) (A:Around) (outer:List Env) (s:Shared) (H:Hp) (vs:List V) (Q:VK) (E:XK),cV k (A.deeper (envOfC x (a9 st) s.heap.objs.size f cdv))→sp vs H Q E →
   ∃ t,PSs (cE CX0 P w K mg base N x (a9 st) f cdv A outer s H E).nox (aQ st) t∧t {nx:=fun _ H'=>Q .non H',rt:=Q} (eD N vs) H):Fn P w K mg base x (k+1) ps sp:=by
 obtain⟨f,fd,F,hm⟩:=D;exact⟨f,fd,F.ok S len (hbody f),hm,F.kp,F.binds hb⟩
end
section
variable {X:Cx} {p pos:Pos} {e:Expr} {es:List Expr} {t:TA}
theorem be (hm:X.mg "len"=none) (ha:PA X (e::es) t) (hg:Gl X "len":=by rfl)
 (he:starEach (e::es) X.env=(false,eval e X.env)::starEach es X.env:=by rfl) (hpl:(backTo pos (starEach es X.env)).any (·.1)=false:=by rfl):PE X (.Call (.Name "len" p) (e::es) [] pos) (tCB (vy X.K) t):=fB jK hg hm PySem.boot_len ha (he:=he) (hpl:=hpl)
theorem ga:bootBuiltins "str"=some (.type "str"):=by decide +kernel
theorem gw:bootBuiltins "isinstance"=some (.builtin "isinstance"):=by decide +kernel
theorem AH (hm:X.mg "str"=none) (ha:PA X (e::es) t) (hg:Gl X "str":=by rfl)
 (he:starEach (e::es) X.env=(false,eval e X.env)::starEach es X.env:=by rfl) (hpl:(backTo pos (starEach es X.env)).any (·.1)=false:=by rfl) :
 PE X (.Call (.Name "str" p) (e::es) [] pos) (tCB (fun xs H Q=>∃ i,xs=[.int i]∧i.natAbs.log2<1920∧Q (.str (toString i)) H) t):=ee jG hg hm ga ha (he:=he) (hpl:=hpl)
variable {o:Expr} {to:TE} {apos cpos:Pos}
theorem aV (ho:PE X o to) (ha:PA X [e] t) (hbase:attributeBase o "append" X.env (eval o X.env)=eval o X.env:=by rfl) (hline:(apos.endLine==cpos.line)=true:=by rfl)
 (hfew:((backTo cpos (starEach [e] X.env)).all (fun x=>!x.1)&&(backToKw cpos (keywordEach [] X.env)).all (fun x=>x.1.isSome)&&decide ([e].length+([]:List Keyword).length+(if ([]:List Keyword).isEmpty then 0 else 1)<30))=true:=by rfl)
 (hs:starEach [e] X.env=(false,eval e X.env)::starEach [] X.env:=by rfl) (hplain:(backTo cpos (starEach [] X.env)).any (·.1)=false:=by rfl) :
 PE X (.Call (.Attribute o "append" apos) [e] [] cpos) (tBM X.K "list" jl to t):=qf PySem.F.plainAttrs_list PySem.F.slot_list_append PySem.F.type_list_append iR ho ha hbase hfew hline hs hplain
end
def aA (J:It) (g:TG) (a:TS) (D:dY) (σ:St) (H1:Hp):Prop:=∃ W:Nat→Nat→St→Hp→Prop,(∃ m,W 0 m σ H1)∧∀ i m σ H,W i m σ H →
  (J.stop i H∧D.nx σ H)∨(J.go i H∧∃ N:St→Hp→Prop,(∀ σ' H',N σ' H'→∃ m',m'<m∧W (i+1) m' σ' H')∧∀ x H',J.yld i H x H'→g x σ H' fun σ2 H2=>a {D with nx:=N,ct:=N,bk:=D.nx} σ2 H2)
theorem qP {x:V} {H:Hp} {R:Bool→Hp→Prop}:BlR x H R=∃ k,x=.bl k∧R k H:=propext ⟨fun h=>by obtain⟨v,a,b⟩:=h;exact⟨v,a,b⟩,fun h=>by obtain⟨v,a,b⟩:=h;exact⟨v,a,b⟩⟩
theorem tj {x:V} {H:Hp} {R:Int→Hp→Prop}:wJ x H R=∃ k,x=.int k∧R k H:=propext ⟨fun h=>by obtain⟨v,a,b⟩:=h;exact⟨v,a,b⟩,fun h=>by obtain⟨v,a,b⟩:=h;exact⟨v,a,b⟩⟩
@[simp] theorem Be {wi:TI} {g:TG} {a:TS} {D:dY} {σ:St} {H:Hp}:xf wi g a D σ H=wi σ H fun J H1=>aA J g a D σ H1:=rfl
theorem aA.by {J:It} {xs:List V} {Ok:Hp→Prop} (Y:de J xs Ok) {g:TG} {tb:TS} {D:dY} {σ:St} {H:Hp} (Pv:Nat→St→Hp→Prop) (h0:Pv 0 σ H) (hl:∀ i σ H,i≤xs.length→Pv i σ H→Ok H)
 (hs:∀ i x σ H,xs[i]?=some x→Pv i σ H→g x σ H fun σ2 H2=>tb {D with nx:=Pv (i+1),ct:=Pv (i+1),bk:=D.nx} σ2 H2) (hd:∀ σ H,Pv xs.length σ H→D.nx σ H):aA J g tb D σ H:=wq Y Pv h0 hl hs hd
def b5 (J:It) (g:TG) (tc:TT) (te:TE) (Q:VK) (σ0:St) (H1:Hp) (L:Addr):Prop :=
  ∃ W:Nat→Nat→St→Hp→Prop,(∃ m,W 0 m σ0 (upd H1 L (.lst [])))∧∀ i m σ' H',W i m σ' H' →
    (J.stop i H'∧Q (.ref L) H')∨(J.go i H'∧∃ N:St→Hp→Prop,(∀ σ2 H2,N σ2 H2→∃ m',m'<m∧W (i+1) m' σ2 H2)∧∀ x H2,J.yld i H' x H2→g x σ' H2 fun σ3 H3=>tc σ3 H3 fun b H4 =>
      if b=true then te σ3 H4 fun v H5=>∃ ys,H5 L=some (.lst ys)∧ys.length<sizeLine∧N σ3 (upd H5 L (.lst (ys++[v]))) else N σ3 H4)
@[simp] theorem cn {wi:TI} {k:Nat} {outs:List (Nat×Str)} {g:TG} {tc:TT} {te:TE} {σ:St} {H:Hp} {Q:VK}:tLC wi k outs g tc te σ H Q=wi σ H fun J H1=>∀ L,H1 L=none→b5 J g tc te Q (fL k outs σ) H1 L:=rfl
@[simp] theorem yA {k:Nat} {outs:List (Nat×Str)} {σ:St}:fL k outs σ=List.replicate k none++outs.map fun p=>(σ[p.1]?).getD none:=rfl
section
variable {D:dY} {σ:St} {H:Hp} {Q:VK} {R:Bool→Hp→Prop} {ta tb tc te:TE} {t u v:TT} {a b:TS} {x y:V} {i:Nat} {g:TG} {al:TA} {S:List V→Hp→Prop} {r r':R2}
@[simp] theorem fR:v4 a b D σ H=a {D with nx:=b D} σ H:=rfl
@[simp] theorem AO:tQ D σ H=D.nx σ H:=rfl
@[simp] theorem cH:rT te g D σ H=te σ H fun x H1=>g x σ H1 D.nx:=rfl
@[simp] theorem aY {N:St→Hp→Prop}:gg i x σ H N=N (σ.set i (some x)) H:=rfl
@[simp] theorem gP:wT te D σ H=te σ H D.rt:=rfl
@[simp] theorem AR:oP te D σ H=te σ H fun _ H1=>D.nx σ H1:=rfl
@[simp] theorem Bd:wZ t a b D σ H=t σ H fun k H1=>if k=true then a D σ H1 else b D σ H1:=rfl
@[simp] theorem B4:d9 i σ H Q=∃ v,σ[i]?=some (some v)∧Q v H:=propext ⟨fun h=>by obtain⟨v,a,b⟩:=h;exact⟨v,a,b⟩,fun h=>by obtain⟨v,a,b⟩:=h;exact⟨v,a,b⟩⟩
@[simp] theorem yz:tC x σ H Q=Q x H:=rfl
@[simp] theorem Cw:tOp r ta tb σ H Q=ta σ H fun x H1=>tb σ H1 fun y H2=>r x y H2 Q:=rfl
@[simp] theorem Cz:tIf t ta tb σ H Q=t σ H fun c H1=>if c=true then ta σ H1 Q else tb σ H1 Q:=rfl
@[simp] theorem AK:me te σ H R=te σ H fun x H'=>∃ k,x=.bl k∧R k H':=congrArg (te σ H) (funext fun x=>funext fun H1=>qP)
@[simp] theorem Cs:tB te σ H R=te σ H fun x H'=>∃ k,x=.bl k∧R k H':=congrArg (te σ H) (funext fun x=>funext fun H1=>qP)
@[simp] theorem yy:vf r r' ta tb tc σ H Q=ta σ H fun x H1=>tb σ H1 fun y H2=>r x y H2 fun z H3=>∃ k,z=.bl k∧(if k=true then tc σ H3 fun w' H4=>r' y w' H4 Q else Q (.bl false) H3):=rfl
@[simp] theorem B7:wW t σ H R=t σ H fun c H1=>R (!c) H1:=rfl
@[simp] theorem Bf:xn t u σ H R=t σ H fun c H1=>if c=true then u σ H1 R else R false H1:=rfl
@[simp] theorem Cv:tOr t u σ H R=t σ H fun c H1=>if c=true then R true H1 else u σ H1 R:=rfl
@[simp] theorem AT:xm ta tb σ H Q=ta σ H fun x H1=>∃ c,x=.bl c∧if c=true then tb σ H1 Q else Q (.bl false) H1:=rfl
@[simp] theorem B6:AY ta tb σ H Q=ta σ H fun x H1=>∃ c,x=.bl c∧if c=true then Q (.bl true) H1 else tb σ H1 Q:=rfl
@[simp] theorem AN:wU ta σ H Q=ta σ H fun x H1=>∃ c,x=.bl c∧Q (.bl (!c)) H1:=rfl
@[simp] theorem B8:je σ H S=S [] H:=rfl
@[simp] theorem cq:cR te al σ H S=te σ H fun x H1=>al σ H1 fun xs H2=>S (x::xs) H2:=rfl
@[simp] theorem gQ {rr:List V→Hp→VK→Prop}:tCB rr al σ H Q=al σ H fun vs H1=>rr vs H1 Q:=rfl
@[simp] theorem AS {sp:Sp} {dvs:List V} {E:XK}:gJ sp dvs E al σ H Q=al σ H fun vs H1=>sp (vs++dvs) H1 Q E:=rfl
@[simp] theorem px:uZ al σ H Q=al σ H fun xs H1=>xs.length≤sizeLine∧∀ p,H1 p=none→Q (.ref p) (upd H1 p (.tup xs)):=rfl
@[simp] theorem B9:wX al σ H Q=al σ H fun xs H1=>xs.length≤sizeLine∧∀ p,H1 p=none→Q (.ref p) (upd H1 p (.lst xs)):=rfl
@[simp] theorem CB {K:Fg} {T:String} {rr:V→List V→Hp→VK→Prop}:tBM K T rr te al σ H Q=te σ H fun x H1=>tyV K T x H1∧al σ H1 fun xs H2=>rr x xs H2 Q:=rfl
@[simp] theorem Ct {rr:V→Option Int→Option Int→Hp→VK→Prop} {tl th:TO}:tSl rr te tl th σ H Q=te σ H fun x H1=>tl σ H1 fun l H2=>th σ H2 fun u H3=>rr x l u H3 Q:=rfl
@[simp] theorem wO {O:Option Int→Hp→Prop}:mh σ H O=O none H:=rfl
@[simp] theorem AM {O:Option Int→Hp→Prop}:tP te σ H O=te σ H fun x H1=>∃ i,x=.int i∧O (some i) H1:=congrArg (te σ H) (funext fun x=>funext fun H1=>tj)
@[simp] theorem Cu {C:Int→Int→Prop} {f:Int→Int→V}:rI C f x y H Q=∃ i j,x=.int i∧y=.int j∧C i j∧Q (f i j) H:=propext ⟨fun h=>by obtain⟨i,j,a,b,c,d⟩:=h;exact⟨i,j,a,b,c,d⟩,fun h=>by obtain⟨i,j,a,b,c,d⟩:=h;exact⟨i,j,a,b,c,d⟩⟩
@[simp] theorem B5 {f:Int→Int→V}:rI0 f x y H Q=∃ i j,x=.int i∧y=.int j∧Q (f i j) H:=propext ⟨fun h=>by obtain⟨i,j,a,b,c⟩:=h;exact⟨i,j,a,b,c⟩,fun h=>by obtain⟨i,j,a,b,c⟩:=h;exact⟨i,j,a,b,c⟩⟩
@[simp] theorem CA:rEq x y H Q=(su x y=true∧Q (.bl (decide (x=y))) H):=rfl
@[simp] theorem Cy:rNe x y H Q=(su x y=true∧Q (.bl (!decide (x=y))) H):=rfl
@[simp] theorem Bc {K:Fg}:sB K x y H Q=∃ p xs i v,x=.ref p∧y=.int i∧SqL K H p xs∧atI xs i=some v∧Q v H:=propext ⟨fun h=>by obtain⟨p,xs,i,v,a,b,c,d,e⟩:=h;exact⟨p,xs,i,v,a,b,c,d,e⟩,fun h=>by obtain⟨p,xs,i,v,a,b,c,d,e⟩:=h;exact⟨p,xs,i,v,a,b,c,d,e⟩⟩
@[simp] theorem Bb:vz x y H Q=∃ z i c,x=.str z∧y=.int i∧z.length≤sizeLine∧atI z.cps.toList i=some c∧Q (.str ⟨#[c]⟩) H:=rfl
@[simp] theorem dN:rR σ H R=R true H:=rfl
@[simp] theorem yw {N:List Str} {vs:List V}:eD N vs=vs.map some++List.replicate (N.length-vs.length) none:=rfl
@[simp] theorem AL {RR:It→Hp→Prop}:u4 al σ H RR=al σ H fun vs H1=>∃ j:Int,vs=[.int j]∧-(2 ^ 62)≤j∧j<2 ^ 62∧RR (Itr 0 j.toNat) H1:=rfl
@[simp] theorem yx {K:Fg} {RR:It→Hp→Prop}:u5 K te σ H RR=te σ H fun x H1=>∃ a,x=.ref a∧(∃ xs,SqL K H1 a xs)∧RR (Itl K a) H1:=rfl
@[simp] theorem AQ {RR:It→Hp→Prop}:BI te σ H RR=te σ H fun v H1=>∃ x,v=.str x∧RR (Itx x) H1:=rfl
end
theorem nd1 (x:Str):[x].Nodup:=by simp
end L2
namespace L2
open PySem PySem.Spec PyProof.Rows PySem.SeqAt
mutual
inductive eA (K:Fg) (H:Hp):V→PyData→Prop
  | non:eA K H .non .none
  | bl (b:Bool):eA K H (.bl b) (.bool b)
  | int (i:Int):eA K H (.int i) (.int i)
  | str (x:Str):eA K H (.str x) (.str x)
  | lst {a:Addr} {xs:List V} {ds:PDs}:SqL K H a xs→jb K H xs ds→eA K H (.ref a) (.list ds)
  | tup {a:Addr} {xs:List V} {ds:PDs}:SqT K H a xs→jb K H xs ds→eA K H (.ref a) (.tuple ds)
inductive jb (K:Fg) (H:Hp):List V→PDs→Prop
  | nil:jb K H [] []
  | cons {x:V} {d:PyData} {xs:List V} {ds:PDs}:eA K H x d→jb K H xs ds→jb K H (x::xs) (d::ds)
end
section
variable {X:Cx} {pins:AOs} {σ:St} {H:Hp} {s:Shared}
theorem eA.reads (I:Inv X pins σ H s) {v:V} {d:PyData} (h:eA X.K H v d):∀ {u:Value},aM v u→∃ as,Reads s.heap u d as:=by
 refine eA.rec (motive_1:=fun v d _=>∀ {u:Value},aM v u→∃ as,Reads s.heap u d as) (motive_2:=fun xs ds _=>∀ {us:List Value},aO xs us→∃ as,ReadsAll s.heap us ds as) ?_ ?_ ?_ ?_ ?_ ?_ ?_ ?_ h
 · intro u r;cases (show u=Value.none from r);exact⟨_,.none⟩
 · intro b u r;cases (show u=Value.bool b from r);exact⟨_,.bool b⟩
 · intro i u r;obtain⟨t,e⟩:=(show ∃ t,u=Value.int i t from r);rw[e];exact⟨_,.int i t⟩
 · intro x u r;obtain⟨t,e⟩:=(show ∃ t,u=Value.str x t from r);rw[e];exact⟨_,.str x t⟩
 · intro a xs ds hq hd ih u r;cases r;obtain⟨its,rv,p,hz⟩:=I.list hq;obtain⟨as,ra⟩:=ih rv;obtain⟨o,ho,hc,n,hdt⟩:=p.isList;exact⟨_,.list ho hc hdt (by simpa using ra)⟩
 · intro a xs ds hq hd ih u r;cases r;obtain⟨its,rv,p,hz⟩:=I.tuple hq;obtain⟨as,ra⟩:=ih rv;obtain⟨o,ho,hc,n,hdt⟩:=p;exact⟨_,.tuple ho hc hdt (by simpa using ra)⟩
 · intro us r;cases r;exact⟨_,.nil⟩
 · intro x d xs ds a b ih1 ih2 us r;cases r with
   | cons r t =>
    obtain⟨as,x⟩:=ih1 r;obtain⟨bs,y⟩:=ih2 t;exact⟨_,.cons x y⟩
def Bl (K:Fg):R2:=fun x y H Q=>∃ d e,eA K H x d∧eA K H y e∧shaped d=true∧shaped e=true∧Q (.bl (PyData.eqv d e)) H
inductive AA (K:Fg) (x y:V) (H:Hp) (Q:VK):Prop
  | mk (d e:PyData) (h1:eA K H x d) (h2:eA K H y e) (h3:shaped d=true) (h4:shaped e=true) (q:Q (.bl (!PyData.eqv d e)) H):AA K x y H Q
def Bj (K:Fg):R2:=fun x y H Q=>AA K x y H Q
theorem vH (hu:X.A.units+64<cLine):OpR X (compareOp .Eq) (Bl X.K):=by
 intro pins s σ H x y v u Q I rx ry h;obtain⟨d,e,hd,he,sd,se,q⟩:=h;obtain⟨as,ra⟩:=hd.reads I rx;obtain⟨bs,rb⟩:=he.reads I ry;exact eq_dataH ra rb sd se hu ⟨.bl _,H,I,rfl,q⟩
theorem ln (hu:X.A.units+64<cLine):OpR X (compareOp .NotEq) (Bj X.K):=by
 intro pins s σ H x y v u Q I rx ry h;obtain⟨d,e,hd,he,sd,se,q⟩:=h;obtain⟨as,ra⟩:=hd.reads I rx;obtain⟨bs,rb⟩:=he.reads I ry;exact ne_dataH ra rb sd se hu ⟨.bl _,H,I,rfl,q⟩
end
section
variable {K:Fg} {H H':Hp}
theorem aj.seqT {a:Addr} {xs:List V} (e:aj H H') (h:SqT K H a xs):SqT K H' a xs:=by
 rcases h with (h | ⟨o,h⟩) | h
 · exact .inl (.inl (e _ _ h))
 · exact .inl (.inr ⟨o,e _ _ h⟩)
 · exact .inr h
end
theorem oI {c:TT} {tb:TS} {D:dY} {σ:St} {H:Hp} (Pv:St→Hp→Prop) (μ:St→Hp→Nat) (h0:Pv σ H)
 (hs:∀ σ H,Pv σ H→c σ H fun b H1=>if b=true then ∃ N:St→Hp→Prop,(∀ σ' H',N σ' H'→∃ m',m'<μ σ H∧(m'=μ σ' H'∧Pv σ' H'))∧tb {D with nx:=N,ct:=N,bk:=D.nx} σ H1 else D.nx σ H1):oO c tb D σ H:=by
 refine⟨fun m σ H=>m=μ σ H∧Pv σ H,⟨_,rfl,h0⟩,?_⟩;rintro m σ H ⟨rfl,p⟩;exact hs σ H p
end L2
namespace L2
open PySem PySem.Spec PyProof.Rows
section
variable {X:Cx} {p pos:Pos} {e:Expr} {t:TA} {o:Expr} {to:TE} {apos cpos:Pos}
theorem lM:bootBuiltins "list"=some (.type "list"):=by decide +kernel
theorem cm:bootBuiltins "tuple"=some (.type "tuple"):=by decide +kernel
theorem wM {es:List Expr} (hm:X.mg "list"=none) (ha:PA X (e::es) t) (hg:Gl X "list":=by rfl)
 (he:starEach (e::es) X.env=(false,eval e X.env)::starEach es X.env:=by rfl) (hpl:(backTo pos (starEach es X.env)).any (·.1)=false:=by rfl) :
 PE X (.Call (.Name "list" p) (e::es) [] pos) (tCB (fun xs H Q=>∃ p ys,xs=[.ref p]∧(SqL X.K H p ys∨SqT X.K H p ys)∧∀ l,H l=none→Q (.ref l) (upd H l (.lst ys))) t):=ee jJ hg hm lM ha (he:=he) (hpl:=hpl)
end
@[simp] theorem vY:∀ ys:List Str,(Txt.join ("":Str) ys).cps.toList=(ys.map fun y=>y.cps.toList).flatten:=by
 intro ys;have e:("":Str)=Str.empty:=by decide +kernel
 rw[e];have key:∀ ys:List Str,(Str.join Str.empty ys).cps.toList=(ys.map fun y=>y.cps.toList).flatten:=by
  intro ys
  induction ys with
  | nil=>rfl
  | cons y r ih =>
   cases r with
   | nil=>simp[Str.join]
   | cons y2 r2 =>
    show ((y++Str.empty++Str.join Str.empty (y2::r2):Str)).cps.toList=_;rw[Str.append_empty,Str.cps_append,Array.toList_append,ih];rfl
 rw[show Txt.join Str.empty ys=Str.join Str.empty ys from StrLaws.glued_eq_join _ _];exact key ys
theorem b5.by {J:It} {xs:List V} {Ok:Hp→Prop} (Y:de J xs Ok) {g:TG} {tc:TT} {te:TE} {Q:VK} {σ0:St} {H1:Hp} {L:Addr} (Pv:Nat→St→Hp→Prop) (h0:Pv 0 σ0 (upd H1 L (.lst []))) (hl:∀ i σ H,i≤xs.length→Pv i σ H→Ok H)
 (hs:∀ i x σ H,xs[i]?=some x→Pv i σ H→g x σ H fun σ3 H3=>tc σ3 H3 fun b H4=>if b=true then te σ3 H4 fun v H5=>∃ ys,H5 L=some (.lst ys)∧ys.length<sizeLine∧Pv (i+1) σ3 (upd H5 L (.lst (ys++[v]))) else Pv (i+1) σ3 H4)
 (hd:∀ σ H,Pv xs.length σ H→Q (.ref L) H):b5 J g tc te Q σ0 H1 L:=by
 refine⟨fun i m σ H=>m=xs.length-i∧i≤xs.length∧Pv i σ H,⟨xs.length,by simp,Nat.zero_le _,h0⟩,?_⟩;rintro i m σ H ⟨rfl,hi,p⟩;have q:=hl i σ H hi p;by_cases hlt:i<xs.length
 · refine .inr ⟨Y.go i H q hlt,Pv (i+1),fun σ' H' p'=>⟨xs.length-(i+1),Nat.sub_succ_lt_self _ _ hlt,rfl,hlt,p'⟩,fun x H' y=>?_⟩;obtain⟨e,y2⟩:=Y.yld i H x H' (Y.go i H q hlt) q y;subst e;exact hs i x σ _ y2 p
 · have e:i=xs.length:=by lia
   subst e;exact .inl ⟨Y.stop _ H q (Nat.le_refl _),hd σ H p⟩
theorem aL.of {X:Cx} {sc:Scope} {own:List Str} {outs:List (Nat×Str)} (fsc:Scope) (N:List Str) (hX:X.env.scope=fsc:=by rfl) (hN:X.N=N:=by rfl) (k:sc.kind=.function:=by rfl) (nc:∀ y∈sc.names,y.2≠.cell:=by decide +kernel) (l:∀ y∈sc.names,y.2=.local→sc.names.lookup y.1=some .local:=by decide +kernel)
 (fr:∀ y∈sc.names,y.2=.free→fsc.names.lookup y.1=some .cell∨fsc.names.lookup y.1=some .free:=by decide +kernel)
 (no:∀ p∈outs,sc.names.lookup p.2≠some .local:=by decide +kernel) (hn:∀ p∈outs,N[p.1]?=some p.2∧(fsc.names.lookup p.2=some .cell∨fsc.names.lookup p.2=some .free):=by decide +kernel):aL X sc own outs:=by
 subst hX hN;refine⟨k,nc,l,fr,fun p hp e=>no p hp ?_,hn⟩;have m:=eR e;unfold relabel at m;obtain⟨⟨n,k'⟩,m1,m2⟩:=List.mem_map.mp m;dsimp only at m2;split at m2
 · cases m2
 · cases m2;exact l _ m1 rfl
section
variable {X:Cx}
def yH (K:Fg):R2:=fun x y H Q=>∃ l b xs zs,x=.ref l∧y=.ref b∧SqL K H l xs∧SqL K H b zs∧xs.length+zs.length≤sizeLine∧∀ p,H p=none→Q (.ref p) (upd H p (.lst (xs++zs)))
theorem fF:OpR X (binaryOp .Add) (yH X.K):=by
 intro pins s σ H x y v u Q I rx ry h;obtain⟨l,b,xs,zs,rfl,rfl,hH,hB,hz,q⟩:=h;cases rx;cases ry;obtain⟨its,r,pl,_⟩:=I.list hH;obtain⟨its2,r2,pl2,_⟩:=I.list hB;have h1:=r.length;have h2:=r2.length;obtain⟨⟨cls,dd,data,sl⟩,ho,hc,n,hd⟩:=pl.isList;obtain⟨⟨cls2,dd2,data2,sl2⟩,ho2,hc2,n2,hd2⟩:=pl2.isList;simp only at hc hd hc2 hd2;subst hc hd hc2 hd2;have e:its.toArray++its2.toArray=(its++its2).toArray:=by simp
 refine concat_meets ⟨_,ho,rfl⟩ ⟨_,ho2,rfl⟩ noFill_list_add seq_list_add PySem.F.slot_list_add PySem.F.entry_list_add (PySem.F.args_list_add_2 _ _) (list_addW l b its.toArray its2.toArray n n2 dd dd2 sl sl2 (by simp;lia)) ⟨ho,ho2,?_⟩;rw[e];exact⟨.ref _,_,I.lnew (t':=s.toks) (r.append r2) (by rw[lAp];lia),rfl,q _ I.fresh⟩
end
section
variable {X:Cx} {e:Expr} {t:TA} {o:Expr} {to:TE} {apos cpos:Pos}
variable {p pos:Pos} {es:List Expr}
end
section
variable {κ:Type} [DecidableEq κ]
def bi (kvs:List (κ×V)) (k:κ):Option V:=(kvs.find? fun kv=>decide (kv.1=k)).map (·.2)
def bW (kvs:List (κ×V)) (k:κ) (v:V):List (κ×V) :=
  if (kvs.any fun kv=>decide (kv.1=k))=true then kvs.map (fun kv=>if kv.1=k then (kv.1,v) else kv) else kvs++[(k,v)]
theorem bP {p:κ×V} {r:List (κ×V)} {k:κ} (e:p.1=k):bi (p::r) k=some p.2:=by simp[bi,List.find?_cons,e]
theorem bQ {p:κ×V} {r:List (κ×V)} {k:κ} (e:¬ p.1=k):bi (p::r) k=bi r k:=by simp[bi,List.find?_cons,e]
theorem dM (k:κ):∀ kvs:List (κ×V),(kvs.any fun kv=>decide (kv.1=k))=(bi kvs k).isSome
 | []=>rfl
 | p::r=>by
  rw[List.any_cons];by_cases e:p.1=k
  · simp only[bP e,decide_eq_true e,Bool.true_or,Option.isSome_some]
  · rw[bQ e,decide_eq_false e,Bool.false_or];exact dM k r
theorem jV (k j:κ) (y:V):∀ kvs:List (κ×V),bi (kvs.map fun kv=>if kv.1=k then (kv.1,y) else kv) j=(bi kvs j).map fun x=>if j=k then y else x
 | []=>rfl
 | p::r=>by
  have ih:=jV k j y r;rw[List.map_cons];by_cases h:p.1=k
  · rw[if_pos h];by_cases e:p.1=j
    · rw[bP (p:=(p.1,y)) e,bP e,Option.map_some,if_pos (e.symm.trans h)]
    · rw[bQ (p:=(p.1,y)) e,bQ e,ih]
  · rw[if_neg h];by_cases e:p.1=j
    · rw[bP (p:=p) e,bP e,Option.map_some,if_neg (fun z=>h (e.trans z))]
    · rw[bQ (p:=p) e,bQ e,ih]
theorem iL (k j:κ) (y:V):∀ kvs:List (κ×V),bi kvs k=none→bi (kvs++[(k,y)]) j=if j=k then some y else bi kvs j
 | [],_=>by
  by_cases e:k=j
  · rw[if_pos e.symm];exact bP (p:=(k,y)) e
  · rw[if_neg (fun z=>e z.symm)];exact bQ (p:=(k,y)) e
 | p::r,hn=>by
  rw[List.cons_append];have hk:¬ p.1=k:=fun z=>by rw[bP z] at hn;cases hn
  rw[bQ hk] at hn;have ih:=iL k j y r hn;by_cases e:p.1=j
  · rw[bP e,bP e,if_neg (fun z=>hk (e.trans z))]
  · rw[bQ e,bQ e,ih]
theorem dL (kvs:List (κ×V)) (k j:κ) (y:V):bi (bW kvs k y) j=if j=k then some y else bi kvs j:=by
 unfold bW;by_cases a:(kvs.any fun kv=>decide (kv.1=k))=true
 · rw[if_pos a,jV];rw[dM] at a;by_cases e:j=k
   · obtain⟨x,hx⟩:=Option.isSome_iff_exists.mp a;rw[if_pos e,e,hx,Option.map_some,if_pos rfl]
   · rw[if_neg e];cases bi kvs j with
     | none=>rfl
     | some x=>rw[Option.map_some,if_neg e]
 · rw[if_neg a];refine iL k j y kvs ?_;rw[dM] at a;cases q:bi kvs k with
   | none=>rfl
   | some x=>rw[q] at a;exact (a rfl).elim
theorem bt (kvs:List (κ×V)) (k:κ) (v:V):(bW kvs k v).length≤kvs.length+1:=by
 unfold bW;split
 · rw[lMp];lia
 · rw[lAp,List.length_cons,List.length_nil];lia
theorem fN.isSome_eq {o:Option V} {u:Option Value} (r:fN o u):o.isSome=u.isSome:=by
 cases o with
 | none=>cases u with
  | none=>rfl
  | some _=>exact (show False from r).elim
 | some _=>cases u with
  | none=>exact (show False from r).elim
  | some _=>rfl
theorem fN.getD {o:Option V} {u:Option Value} {d:V} {d':Value} (r:fN o u) (rd:aM d d'):aM (o.getD d) (u.getD d'):=by
 cases o with
 | none=>cases u with
  | none=>exact rd
  | some _=>exact (show False from r).elim
 | some _=>cases u with
  | none=>exact (show False from r).elim
  | some _=>exact r
theorem KV.val {kvs:List (κ×V)} {vs:List (κ×Value)} (r:KV kvs vs) (k:κ):fN (bi kvs k) (valueAt vs k):=by
 unfold KV at r
 induction r with
 | nil=>exact True.intro
 | @cons p q ps qs h t ih =>
  obtain⟨h1,h2⟩:=h;by_cases e:p.1=k
  · have e':q.1=k:=h1.symm.trans e;have b:valueAt (q::qs) k=some q.2:=by simp[valueAt,List.find?_cons,e']
    rw[bP e,b];exact h2
  · have e':¬ q.1=k:=fun z=>e (h1.trans z);have b:valueAt (q::qs) k=valueAt qs k:=by simp[valueAt,List.find?_cons,e']
    rw[bQ e,b];exact ih
theorem KV.any {kvs:List (κ×V)} {vs:List (κ×Value)} (r:KV kvs vs) (k:κ):(kvs.any fun kv=>decide (kv.1=k))=vs.any fun kv=>decide (kv.1=k):=by
 unfold KV at r
 induction r with
 | nil=>rfl
 | cons h t ih=>rw[List.any_cons,List.any_cons,ih,h.1]
theorem KV.repl {kvs:List (κ×V)} {vs:List (κ×Value)} (r:KV kvs vs) (k:κ) {y:V} {u:Value} (ry:aM y u) :
 KV (kvs.map fun kv=>if kv.1=k then (kv.1,y) else kv) (vs.map fun kv=>if kv.1=k then (kv.1,u) else kv):=by
 unfold KV at r ⊢
 induction r with
 | nil=>exact .nil
 | @cons p q ps qs h t ih =>
  rw[List.map_cons,List.map_cons];refine .cons ?_ ih;obtain⟨h1,h2⟩:=h;by_cases e:p.1=k
  · rw[if_pos e,if_pos (h1.symm.trans e)];exact⟨h1,ry⟩
  · rw[if_neg e,if_neg (fun z=>e (h1.trans z))];exact⟨h1,h2⟩
theorem KV.put {kvs:List (κ×V)} {vs:List (κ×Value)} (r:KV kvs vs) (k:κ) {y:V} {u:Value} (ry:aM y u):KV (bW kvs k y) (stored vs k u):=by
 unfold bW stored;rw[r.any k];by_cases e:(vs.any fun kv=>decide (kv.1=k))=true
 · rw[if_pos e,if_pos e];exact r.repl k ry
 · rw[if_neg e,if_neg e];exact Paired.snoc r ⟨rfl,ry⟩
theorem KV.length {kvs:List (κ×V)} {vs:List (κ×Value)} (r:KV kvs vs):kvs.length=vs.length:=Paired.length r
end
theorem gf {P:Program} {w:World} {k:Key} {u:Value} (r:aM (kV k) u):(aw P w).is k u=true:=by
 cases k with
 | inl i=>obtain⟨t,e⟩:=(show ∃ t,u=Value.int i t from r);subst e;exact kI P w i t
 | inr x=>obtain⟨t,e⟩:=(show ∃ t,u=Value.str x t from r);subst e;exact dR P w x t
theorem iT {P:Program} {w:World}:∀ {ks:List Key} {us:List Value},aO (ks.map kV) us→ItemsAre (aw P w) ks us
 | [],_,r=>by rw[List.map_nil] at r;cases r;exact .nil
 | k::ks,_,r=>by
  rw[List.map_cons] at r;cases r with
  | cons h t=>exact .cons (gf h) (iT t)
abbrev KT (H:Hp):List (List Key×V)→List (List Key×Addr×Value)→Prop:=Paired fun p q=>p.1=q.1∧H q.2.1=some (.tup (p.1.map kV))∧aM p.2 q.2.2
theorem KT.val {H:Hp} {kvs:List (List Key×V)} {xs:List (List Key×Addr×Value)} (r:KT H kvs xs) (k:List Key):fN (bi kvs k) ((atKey xs k).map (·.2)):=by
 induction r with
 | nil=>exact True.intro
 | @cons p q ps qs h t ih =>
  obtain⟨h1,_,h2⟩:=h;by_cases e:p.1=k
  · have e':q.1=k:=h1.symm.trans e;have b:atKey (q::qs) k=some q.2:=by simp[atKey,List.find?_cons,e']
    rw[bP e,b];exact h2
  · have e':¬ q.1=k:=fun z=>e (h1.trans z);have b:atKey (q::qs) k=atKey qs k:=by simp[atKey,List.find?_cons,e']
    rw[bQ e,b];exact ih
theorem KT.repl {H:Hp} {kvs:List (List Key×V)} {xs:List (List Key×Addr×Value)} (r:KT H kvs xs) (k:List Key) {y:V} {u:Value} (ry:aM y u) :
 KT H (kvs.map fun kv=>if kv.1=k then (kv.1,y) else kv) (xs.map (putAt k u)):=by
 induction r with
 | nil=>exact .nil
 | @cons p q ps qs h t ih =>
  rw[List.map_cons,List.map_cons];refine .cons ?_ ih;obtain⟨h1,h2,h3⟩:=h;unfold putAt;by_cases e:p.1=k
  · rw[if_pos e,if_pos (h1.symm.trans e)];exact⟨h1,h2,ry⟩
  · rw[if_neg e,if_neg (fun z=>e (h1.trans z))];exact⟨h1,h2,h3⟩
theorem KT.put {H:Hp} {kvs:List (List Key×V)} {xs:List (List Key×Addr×Value)} (r:KT H kvs xs) (k:List Key) {b:Addr} {y:V} {u:Value} (hb:H b=some (.tup (k.map kV))) (ry:aM y u) :
 KT H (bW kvs k y) (storedH xs k b u):=by
 have e:(kvs.any fun kv=>decide (kv.1=k))=(atKey xs k).isSome:=by
  rw[dM,(r.val k).isSome_eq,Option.isSome_map]
 unfold bW storedH;rw[e];by_cases q:(atKey xs k).isSome=true
 · rw[if_pos q,if_pos q];exact r.repl k ry
 · rw[if_neg q,if_neg q];exact Paired.snoc r ⟨rfl,hb,ry⟩
theorem KT.keeps {H H':Hp} {kvs:List (List Key×V)} {xs:List (List Key×Addr×Value)} (r:KT H kvs xs) (ht:∀ b ys,H b=some (.tup ys)→H' b=some (.tup ys)):KT H' kvs xs :=
 Paired.mapP r fun _ _ z=>⟨z.1,ht _ _ z.2.1,z.2.2⟩
section
variable {P:Program} {w:World} {H:Hp} {h:Heap} {a:Addr}
theorem tV {u:HO} (ok:HOk P w H h) (e:Rd H a u):bb P w H h a u:=e.ok ok
theorem iY {kvs:List (Key×V)} (ok:HOk P w H h) (e:Rd H a (.dK kvs)):kvs.length≤sizeLine∧(a==sysModules)=false∧∃ vs,KV kvs vs∧h.DictOf (aw P w) a vs :=
 show bb P w H h a (.dK kvs) from tV ok e
theorem iZ {kvs:List (Key×V)} (ok:HOk P w H h) (e:H a=some (.dK kvs)):kvs.length≤sizeLine∧(a==sysModules)=false∧∃ vs,KV kvs vs∧h.DictOf (aw P w) a vs:=iY ok (.inl e)
theorem fX {ks:List Key} (ok:HOk P w H h) (e:H a=some (.tup (ks.map kV))):(tupleKind (aw P w)).is h ks a:=by
 obtain⟨_,its,r,o,h1,h2,n,h3⟩:=(show bb P w H h a (.tup (ks.map kV)) from ok a _ e);exact⟨o,its.toArray,n,h1,h2,h3,by simpa using iT r⟩
theorem iX {kvs:List (List Key×V)} (ok:HOk P w H h) (e:Rd H a (.dT kvs)):kvs.length≤sizeLine∧(a==sysModules)=false ∧
 ∃ xs,KT H kvs xs∧h.DictOfH (tupleKind (aw P w)) a xs:=by
 obtain⟨z,y,xs,r,o,es,ep,h1,h2,h3,h4,h5⟩:=(show bb P w H h a (.dT kvs) from tV ok e);refine⟨z,y,xs,r,o,es,ep,h1,h2,h3,h4,fun x hx=>?_,h5⟩;have all:∀ {l:List (List Key×V)} {m:List (List Key×Addr×Value)},KT H l m→∀ x∈m,(tupleKind (aw P w)).is h x.1 x.2.1:=by
  intro l m q
  induction q with
  | nil=>intro x hx;exact nomatch hx
  | @cons p q ps qs hq t ih =>
   intro x hx
   rcases List.mem_cons.mp hx with e | hx
   · subst e;exact fX ok (by rw[← hq.1];exact hq.2.1)
   · exact ih x hx
 exact all r x hx
theorem Ap {kvs:List (List Key×V)} (ok:HOk P w H h) (e:H a=some (.dT kvs)):kvs.length≤sizeLine∧(a==sysModules)=false ∧
 ∃ xs,KT H kvs xs∧h.DictOfH (tupleKind (aw P w)) a xs:=iX ok (.inl e)
end
def bO (H:Hp) (a:Addr) (y:V) (r:Option V):Prop :=
  (∃ kvs k,Rd H a (.dK kvs)∧y=kV k∧r=bi kvs k)∨∃ kvs k b,Rd H a (.dT kvs)∧y=.ref b∧H b=some (.tup (k.map kV))∧r=bi kvs k
def dI (H:Hp) (a:Addr) (y v:V) (H':Hp):Prop :=
  (∃ kvs k,H a=some (.dK kvs)∧y=kV k∧kvs.length<sizeLine∧H'=upd H a (.dK (bW kvs k v))) ∨
  ∃ kvs k b,H a=some (.dT kvs)∧y=.ref b∧H b=some (.tup (k.map kV))∧kvs.length<sizeLine∧H'=upd H a (.dT (bW kvs k v))
theorem bO.k {H:Hp} {a:Addr} {kvs:List (Key×V)} {k:Key} (e:H a=some (.dK kvs)):bO H a (kV k) (bi kvs k):=.inl ⟨kvs,k,.inl e,rfl,rfl⟩
theorem dI.k {H:Hp} {a:Addr} {kvs:List (Key×V)} {k:Key} {v:V} (e:H a=some (.dK kvs)) (hl:kvs.length<sizeLine):dI H a (kV k) v (upd H a (.dK (bW kvs k v))):=.inl ⟨kvs,k,e,rfl,hl,rfl⟩
theorem dI.t {H:Hp} {a b:Addr} {kvs:List (List Key×V)} {k:List Key} {v:V} (e:H a=some (.dT kvs)) (eb:H b=some (.tup (k.map kV))) (hl:kvs.length<sizeLine) :
 dI H a (.ref b) v (upd H a (.dT (bW kvs k v))):=.inr ⟨kvs,k,b,e,rfl,eb,hl,rfl⟩
section
variable {X:Cx} {pins:AOs} {σ:St} {H:Hp} {s:Shared} {a:Addr} {y v:V} {u r:Value} {o:Option V} {A:Around} {E:VSP}
theorem Inv.big (I:Inv X pins σ H s):sysModules<s.heap.objs.size:=by
 have h:mainGlobals<s.heap.objs.size:=(I.mod.glob.keeps I.bk).lt;exact Nat.lt_trans (by decide) h
theorem o9 {Q:VSP} (hu:A.units+1<cLine) (I:Inv X pins σ H s) (g:bO H a y (some v)) (ry:aM y u) (h:∀ w' s',Inv X pins σ H s'→aM v w'→Q w' s') :
 wpAny (model X.prog X.w) A (getItem (.ref a) u) Q E s:=by
 rcases g with ⟨kvs,k,e,ey,l⟩ | ⟨kvs,k,b,e,ey,eb,l⟩
 · subst ey;obtain⟨z,hd,vs,rel,dd⟩:=iY I.hok e;obtain⟨w',hw,rw'⟩:=fN.some_of (v:=v) (o:=valueAt vs k) (by rw[l];exact rel.val k);exact wpAny_getItem_of (gf ry) dd.mapOf hw (h w' _ (I.tok _) rw')
 · subst ey;cases (show u=Value.ref b from ry);obtain⟨z,hd,xs,rel,dd⟩:=iX I.hok e;obtain⟨w',hw,rw'⟩:=fN.some_of (v:=v) (o:=(atKey xs k).map (·.2)) (by rw[l];exact rel.val k);obtain⟨p,hp,hp2⟩:=oMS.mp hw;refine wpAny_getItem_heap (tupleKind_room_in1 hu) (fX I.hok eb) dd hp ?_;rw[hp2];exact h w' _ (I.tok _) rw'
theorem tF {Q:VSP} (hu:A.units+1<cLine) (I:Inv X pins σ H s) (g:bO H a y o) (ry:aM y u) (h:∀ s',Inv X pins σ H s'→Q (.bool (!o.isSome)) s') :
 wpAny (model X.prog X.w) A (compareOp .NotIn u (.ref a)) Q E s:=by
 rcases g with ⟨kvs,k,e,ey,l⟩ | ⟨kvs,k,b,e,ey,eb,l⟩
 · subst ey;obtain⟨z,hd,vs,rel,dd⟩:=iY I.hok e;refine wpAny_notIn_of (gf ry) hd dd.mapOf ?_;rw[← (rel.val k).isSome_eq,← l];exact h _ (I.tok _)
 · subst ey;cases (show u=Value.ref b from ry);obtain⟨z,hd,xs,rel,dd⟩:=iX I.hok e;refine wpAny_notIn_heap (tupleKind_room_in1 hu) (fX I.hok eb) hd dd ?_;have q:=(rel.val k).isSome_eq;rw[Option.isSome_map] at q;rw[← q,← l];exact h _ (I.tok _)
theorem ej {h':Heap} {t':Nat} {ob:HO} (I:Inv X pins σ H s) (mu:Mut (H a)) (hs:Heap.SameBut a s.heap h') (he:∃ q,h'.get? a=some q) (new:bb X.prog X.w (upd H a ob) h' a ob) :
 Inv X pins σ (upd H a ob) {s with heap:=h',toks:=t'} :=
 I.write (x:=a) (e:=a) mu (.inl rfl) (fun b q hb z=>(hs.2 b hb).trans z) he new
theorem jD {P:Program} {w:World} {H':Hp} {h':Heap} {kvs:List (Key×V)} {vs:List (Key×Value)} (z:kvs.length≤sizeLine) (hd:(a==sysModules)=false) (rel:KV kvs vs) (dd:h'.DictOf (aw P w) a vs) :
 bb P w H' h' a (.dK kvs):=⟨z,hd,vs,rel,dd⟩
theorem o8 {H':Hp} {Q:Unit→Shared→Prop} (hu:A.units+1<cLine) (I:Inv X pins σ H s) (g:dI H a y v H') (ry:aM y u) (rv:aM v r) (h:∀ s',Inv X pins σ H' s'→Q () s') :
 wpAny (model X.prog X.w) A (setItem (.ref a) u r) Q E s:=by
 rcases g with ⟨kvs,k,e,ey,l,eH⟩ | ⟨kvs,k,b,e,ey,eb,l,eH⟩
 · subst ey eH;obtain⟨z,hd,vs,rel,dd⟩:=iZ I.hok e;have hz:vs.length≤sizeLine:=by rw[← rel.length];exact z
   have hl:(bW kvs k v).length≤sizeLine:=by have:=bt kvs k v;lia
   refine wpAny_setItem_pairs (hsz:=hz) (gf ry) dd fun h' dd' hs=>h _ ?_;have he:∃ q,h'.get? a=some q:=let ⟨q,_,_,hq,_⟩:=dd';⟨q,hq⟩;exact ej I (by rw[e];exact True.intro) hs he (jD hl hd (rel.put k rv) dd')
 · subst ey eH;cases (show u=Value.ref b from ry);obtain⟨z,hd,xs,rel,dd⟩:=Ap I.hok e;have hz:xs.length≤sizeLine:=by rw[← Paired.length rel];exact z
   have hl:(bW kvs k v).length≤sizeLine:=by have:=bt kvs k v;lia
   refine wpAny_setItem_heap (hsz:=hz) (tupleKind_room_in1 hu) (fX I.hok eb) dd fun h' dd' hs=>h _ ?_;obtain⟨q,es,ep,hq,h2,h3,h4,_,h5⟩:=dd';refine ej I (by rw[e];exact True.intro) hs ⟨q,hq⟩ ⟨hl,hd,_,(rel.put k eb rv).keeps fun c ys ec=>?_,q,es,ep,hq,h2,h3,h4,h5⟩;rw[aa (zE ec e (fun z=>nomatch z))];exact ec
end
section
variable {X:Cx} {pins:AOs} {σ:St} {H:Hp} {s:Shared} {a:Addr} {kvs:List (Key×V)} {k:Key} {u:Value} {A:Around} {E:VSP}
end
def wG (i:Expr):Prop:=∀ ov iv,subscripted i false ov iv=operate [ov,iv] (getItem ov iv)
theorem mj {prog:Program} {w:World} {A:Around} {E:VSP} {s:Shared} {env:Env} {value slice:Expr} {pos:Pos} {T id:String} {Q:VSP}
 (hl:typeLookup (.type T) "__getitem__"=pure (some (.builtin id))) (hs:wG slice)
 (h:wpAny (model prog w) A (eval value env) (fun o s₁=>wpAny (model prog w) A (eval slice env) (fun i s₂=>s₂.TypeIs o T∧wpAny (model prog w) A (getItem o i) Q E s₂) E s₁) E s) :
 wpAny (model prog w) A (eval (.Subscript value slice pos) env) Q E s:=by
 refine Subscript_ (wpAny_mono h (fun o s₁ h₁=>wpAny_mono h₁ (fun i s₂ h₂=>?_) fun _ _ x=>x) fun _ _ x=>x);obtain⟨hT,h₂⟩:=h₂;unfold subscriptTail;refine wB ?_;rw[getitemInPython_of_ne hT.not_modules];refine wB (wpAny_specialOf hT hl ?_);have fin:wpAny (model prog w) A (subscripted slice false o i) (fun r s₃=>wpAny (model prog w) A (letTemporaryGo value o r>>=fun _=>pure r) Q E s₃) E s₂:=by
  rw[hs o i];exact wpAny_operating (wpAny_mono h₂ (fun r s₃ h₃=>wB (wpAny_letTemporaryGo (wP h₃))) fun _ _ x=>x)
 first
  | exact wP (wB fin)
  | exact wB (wP (wB fin))
  | exact wB fin
theorem kM {X:Cx} {pins:AOs} {σ:St} {H:Hp} {s:Shared} {a:Addr} {y:V} {o:Option V} (I:Inv X pins σ H s) (g:bO H a y o):s.TypeIs (.ref a) "dict":=by
 rcases g with ⟨kvs,k,e,_,_⟩ | ⟨kvs,k,b,e,_,_,_⟩
 · obtain⟨_,_,vs,_,dd⟩:=iY I.hok e;exact dd.typeIs
 · obtain⟨_,_,xs,_,dd⟩:=iX I.hok e;exact dd.typeIs
inductive uU (x y:V) (H:Hp) (Q:VK):Prop
  | mk (a:Addr) (v:V) (h:x=.ref a) (g:bO H a y (some v)) (q:Q v H):uU x y H Q
def xh (td ty:TE):TE:=fun σ H Q=>td σ H fun x H1=>ty σ H1 fun y H2=>uU x y H2 Q
def rS (ty td:TE):TE:=fun σ H Q=>ty σ H fun y H1=>td σ H1 fun x H2=>∃ a o,x=.ref a∧bO H2 a y o∧Q (.bl (!o.isSome)) H2
inductive rF (x y v:V) (H:Hp) (N:Hp→Prop):Prop
  | mk (a:Addr) (H4:Hp) (h:x=.ref a) (g:dI H a y v H4) (q:N H4):rF x y v H N
def tU (td ty tv:TE):TS:=fun D σ H=>tv σ H fun v H1=>td σ H1 fun x H2=>ty σ H2 fun y H3=>rF x y v H3 (D.nx σ)
section
variable {X:Cx} {o i e value:Expr} {pos pos' tpos:Pos} {td ty tv:TE}
theorem pM (hu:X.A.units+1<cLine) (ho:PE X o td) (hi:PE X i ty) (hs:wG i):PE X (.Subscript o i pos) (xh td ty):=by
 intro pins s σ H Q I h;refine mj PySem.F.slot_dict_getitem.lookup hs (thn (ho pins s σ H _ I h) fun u s1 zy85=>?_);obtain⟨x,H1,I1,rx,q1⟩:=zy85;refine thn (hi pins s1 σ H1 _ I1 q1) fun iv s2 zy86=>?_;obtain⟨y,H2,I2,ry,a,v,ex,g,q2⟩:=zy86;subst ex;obtain rfl:u=Value.ref a:=rx;exact⟨kM I2 g,o9 hu I2 g ry fun w' s3 I3 rw'=>⟨v,H2,I3,rw',q2⟩⟩
theorem nJ (hu:X.A.units+1<cLine) (hi:PE X i ty) (ho:PE X o td):PC X .NotIn i o (rS ty td):=by
 intro pins s σ H Q I h;refine thn (hi pins s σ H _ I h) fun iv s1 zy89=>?_;obtain⟨y,H1,I1,ry,q1⟩:=zy89;refine thn (ho pins s1 σ H1 _ I1 q1) fun u s2 zy90=>?_;obtain⟨x,H2,I2,rx,a,ov,ex,g,q2⟩:=zy90;subst ex;obtain rfl:u=Value.ref a:=rx;exact tF hu I2 g ry fun s3 I3=>⟨.bl (!ov.isSome),H2,I3,rfl,q2⟩
theorem b7 (hu:X.A.units+1<cLine) (ho:PE X o td) (hi:PE X i ty) (hv:PE X value tv) (hs:swapsWith value (some (.Subscript o i pos')) pos.line X.env=pure false) :
 PS X (.Assign [.Subscript o i pos'] value pos) (tU td ty tv):=by
 intro pins s σ H D I h;refine wpAny_Assign_Subscript (thn (hv pins s σ H _ I h) fun r s1 zy91=>?_) hs;obtain⟨v,H1,I1,rv,q1⟩:=zy91;refine thn (ho pins s1 σ H1 _ I1 q1) fun u s2 zy92=>?_;obtain⟨x,H2,I2,rx,q2⟩:=zy92;refine thn (hi pins s2 σ H2 _ I2 q2) fun iv s3 zy93=>?_;obtain⟨y,H3,I3,ry,a,H4,ex,g,q3⟩:=zy93;subst ex;obtain rfl:u=Value.ref a:=rx;exact o8 hu I3 g ry rv fun s4 I4=>⟨σ,H4,I4,q3⟩
end
theorem ij {P:Program} {w:World} {H:Hp} (h:Heap) (hb:sysModules<h.objs.size):bb P w H (h.push {cls:=.type "dict",data:=.dict #[]}) h.objs.size (.dK []) :=
 ⟨Nat.zero_le _,beq_eq_false_iff_ne.mpr (Ne.symm (Nat.ne_of_lt hb)),[],.nil,Heap.DictOf.new h⟩
theorem qI {P:Program} {w:World} {H:Hp} (h:Heap) (hb:sysModules<h.objs.size):bb P w H (h.push {cls:=.type "dict",data:=.dict #[]}) h.objs.size (.dT []) :=
 ⟨Nat.zero_le _,beq_eq_false_iff_ne.mpr (Ne.symm (Nat.ne_of_lt hb)),[],.nil,_,#[],0,Heap.get?_push_size _ rfl,⟨rfl,rfl,rfl⟩,rfl,rfl,List.nodup_nil⟩
def vd:TE:=fun _ H Q=>∀ p,H p=none→Q (.ref p) (upd H p (.dK []))
def v9:TE:=fun _ H Q=>∀ p,H p=none→Q (.ref p) (upd H p (.dT []))
section
variable {X:Cx} {pos:Pos}
theorem kC:PE X (.Dict [] [] pos) vd:=fun pins s σ H Q I h =>
 wpAny_Dict_empty ⟨.ref s.heap.objs.size,_,I.laid (a:=s.heap.objs.size) (o:=.dK []) (t':=s.toks) (fun _ _ q=>hpS _ q) (Nat.le_refl _) (ij s.heap I.big),rfl,h _ (I.hok.fresh (Nat.le_refl _))⟩
theorem kA:PE X (.Dict [] [] pos) v9:=fun pins s σ H Q I h =>
 wpAny_Dict_empty ⟨.ref s.heap.objs.size,_,I.laid (a:=s.heap.objs.size) (o:=.dT []) (t':=s.toks) (fun _ _ q=>hpS _ q) (Nat.le_refl _) (qI s.heap I.big),rfl,h _ (I.hok.fresh (Nat.le_refl _))⟩
end
def jd:List (TE×TE)→St→Hp→(List (V×V)→Hp→Prop)→Prop
  | [],_,H,Q=>Q [] H
  | (tk,tv)::r,σ,H,Q=>tk σ H fun x H1=>tv σ H1 fun y H2=>jd r σ H2 fun ps H3=>Q ((x,y)::ps) H3
abbrev VV:List (V×V)→List (Value×Value)→Prop:=Paired fun p q=>aM p.1 q.1∧aM p.2 q.2
def PPs (X:Cx) (pos:Pos) (keys:List (Option Expr)) (values:List Expr) (trs:List (TE×TE)):Prop :=
  ∀ (pins:AOs) (s:Shared) (σ:St) (H:Hp) (Q:List (V×V)→Hp→Prop),Inv X pins σ H s→jd trs σ H Q →
    wpAny (model X.prog X.w) X.A (evalPairs (pairTrees keys values X.env pos)) (fun vs s'=>∃ ps H',Inv X pins σ H' s'∧VV ps vs∧Q ps H') X.xe s
theorem mz {X:Cx} {pos:Pos}:PPs X pos [] [] []:=fun pins s σ H Q I h=>pairTrees_nil_walk ⟨[],H,I,.nil,h⟩
theorem bB {X:Cx} {pos:Pos} {k v:Expr} {ks:List (Option Expr)} {vs:List Expr} {tk tv:TE} {trs:List (TE×TE)} (hk:PE X k tk) (hv:PE X v tv) (hr:PPs X pos ks vs trs) :
 PPs X pos (some k::ks) (v::vs) ((tk,tv)::trs):=fun pins s σ H Q I h =>
 pairTrees_cons_walk (thn (hk pins s σ H _ I h) fun u s1 ⟨x,H1,I1,rx,q1⟩=>thn (hv pins s1 σ H1 _ I1 q1) fun w2 s2 ⟨y,H2,I2,ry,q2⟩ =>
   thn (hr pins s2 σ H2 _ I2 q2) fun ws s3 ⟨ps,H3,I3,rel,q3⟩=>⟨(x,y)::ps,H3,I3,.cons ⟨rx,ry⟩ rel,q3⟩)
def bM (kvs more:List (Key×V)):List (Key×V):=more.foldl (fun acc kv=>bW acc kv.1 kv.2) kvs
theorem KV.merge:∀ {more:List (Key×V)} {rs:List (Key×Value)} {kvs:List (Key×V)} {vs:List (Key×Value)},KV more rs→KV kvs vs→KV (bM kvs more) (merged vs rs):=by
 intro more rs kvs vs r;unfold KV at r
 induction r generalizing kvs vs with
 | nil=>intro q;exact q
 | @cons p q ps qs h t ih =>
  intro r0;have e:KV (bW kvs p.1 p.2) (stored vs q.1 q.2):=by
   have:=r0.put p.1 h.2;rw[← h.1];exact this
  exact ih e
theorem cy:∀ (more kvs:List (Key×V)),(bM kvs more).length≤kvs.length+more.length
 | [],kvs=>by show kvs.length≤kvs.length+0;lia
 | p::r,kvs=>by
  have h1:=cy r (bW kvs p.1 p.2);have h2:=bt kvs p.1 p.2;show (bM (bW kvs p.1 p.2) r).length≤_;rw[List.length_cons];lia
theorem eV {P:Program} {w:World}:∀ {kvs:List (Key×V)} {ws:List (Value×Value)},VV (kvs.map fun kv=>(kV kv.1,kv.2)) ws→∃ rs,Carries (aw P w) ws rs∧KV kvs rs
 | [],_,r=>by rw[List.map_nil] at r;cases r;exact⟨[],True.intro,.nil⟩
 | p::kvs,_,r=>by
  rw[List.map_cons] at r;cases r with
  | @cons a b as bs h t =>
   obtain⟨rs,c,q⟩:=eV (P:=P) (w:=w) t;obtain⟨b1,b2⟩:=b;exact⟨(p.1,b2)::rs,⟨gf h.1,rfl,c⟩,.cons ⟨rfl,h.2⟩ q⟩
def xg (trs:List (TE×TE)):TE:=fun σ H Q=>∀ p,H p=none→jd trs σ (upd H p (.dK [])) fun ps H2=>H2 p=some (.dK [])∧∃ kvs:List (Key×V),ps=kvs.map (fun kv=>(kV kv.1,kv.2))∧kvs.length≤15∧Q (.ref p) (upd H2 p (.dK (bM [] kvs)))
theorem sH {X:Cx} {pos:Pos} {keys:List (Option Expr)} {values:List Expr} {trs:List (TE×TE)} (h:PPs X pos keys values trs) (hall:keys.all (·.isSome)=true) (hl:keys.length=values.length) (h0:keys≠[])
 (h15:keys.length≤15):PE X (.Dict keys values pos) (xg trs):=by
 intro pins s σ H Q I q;have hn:=I.hok.fresh (Nat.le_refl s.heap.objs.size);have I1:=I.laid (a:=s.heap.objs.size) (o:=.dK []) (h':=s.heap.push {cls:=.type "dict",data:=.dict #[]}) (t':=s.toks) (fun _ _ q=>hpS _ q) (Nat.le_refl _) (ij s.heap I.big);refine wpAny_Dict_walk (knd:=aw X.prog X.w) hall hl h0 h15 (thn (h pins _ σ _ _ I1 (q _ hn)) fun ws s2 zy100=>?_);obtain⟨ps,H2,I2,rel,e,kvs,ep,lk,q2⟩:=zy100;subst ep;obtain⟨rs,c,rk⟩:=eV (P:=X.prog) (w:=X.w) rel;obtain⟨z,hd,vs0,r0,dd⟩:=iZ I2.hok e;cases r0;refine⟨rs,c,dd,fun h' dd' hs=>⟨.ref s.heap.objs.size,_,?_,rfl,q2⟩⟩;have hz:(bM [] kvs).length≤sizeLine:=by
  have h1:=cy kvs [];rw[List.length_nil] at h1;rw[sizeLine_eq];lia
 have he:∃ q,h'.get? s.heap.objs.size=some q:=let ⟨q,_,_,hq,_⟩:=dd';⟨q,hq⟩;exact ej I2 (by rw[e];exact True.intro) hs he (jD hz hd (rk.merge .nil) dd')
structure M1 (X:Cx) (o:Expr) (m:Str) (apos:Pos) (e:Expr) (cpos:Pos):Prop where
  base:attributeBase o m X.env (eval o X.env)=eval o X.env
  few:((backTo cpos (starEach [e] X.env)).all (fun x=>!x.1)&&(backToKw cpos (keywordEach [] X.env)).all (fun x=>x.1.isSome)
    && decide (([e]:List Expr).length+([]:List Keyword).length+(if ([]:List Keyword).isEmpty then 0 else 1)<30))=true
  line:(apos.endLine==cpos.line)=true
  trees:backTo cpos (starEach [e] X.env)=[(false,eval e X.env)]
structure M2 (X:Cx) (o:Expr) (m:Str) (apos:Pos) (e f:Expr) (cpos:Pos):Prop where
  base:attributeBase o m X.env (eval o X.env)=eval o X.env
  few:((backTo cpos (starEach [e,f] X.env)).all (fun x=>!x.1)&&(backToKw cpos (keywordEach [] X.env)).all (fun x=>x.1.isSome)
    && decide (([e,f]:List Expr).length+([]:List Keyword).length+(if ([]:List Keyword).isEmpty then 0 else 1)<30))=true
  line:(apos.endLine==cpos.line)=true
  trees:backTo cpos (starEach [e,f] X.env)=[(false,eval e X.env),(false,eval f X.env)]
def IsD (H:Hp) (a:Addr):Prop:=(∃ kvs,Rd H a (.dK kvs))∨∃ kvs,Rd H a (.dT kvs)
theorem w4 {X:Cx} {pins:AOs} {σ:St} {H:Hp} {s:Shared} {a:Addr} (I:Inv X pins σ H s) (d:IsD H a) :
 s.TypeIs (.ref a) "dict"∧(∀ b,Value.ref a=.ref b→∃ ob,s.heap.get? b=some ob∧ob.dict=none)∧(a==sysModules)=false:=by
 rcases d with ⟨kvs,e⟩ | ⟨kvs,e⟩
 · obtain⟨_,hd,vs,_,dd⟩:=iY I.hok e;refine⟨dd.typeIs,fun b q=>?_,hd⟩;cases q;obtain⟨ob,_,_,h1,h2,_⟩:=dd;exact⟨ob,h1,h2.2.1⟩
 · obtain⟨_,hd,xs,_,dd⟩:=iX I.hok e;refine⟨dd.typeIs,fun b q=>?_,hd⟩;cases q;obtain⟨ob,_,_,h1,h2,_⟩:=dd;exact⟨ob,h1,h2.2.1⟩
section
variable {X:Cx} {pins:AOs} {σ:St} {H:Hp} {s:Shared} {a:Addr} {y d:V} {u r:Value} {o:Option V} {A:Around} {E:VSP}
theorem ww {Q:VSP} (hu:A.units+1<cLine) (I:Inv X pins σ H s) (g:bO H a y o) (ry:aM y u) (rd:aM d r) (h:∀ w' s',Inv X pins σ H s'→aM (o.getD d) w'→Q w' s') :
 wpAny (model X.prog X.w) A (call (.builtin "dict.get") [.ref a,u,r]) Q E s:=by
 rcases g with ⟨kvs,k,e,ey,l⟩ | ⟨kvs,k,b,e,ey,eb,l⟩
 · subst ey;obtain⟨z,hd,vs,rel,dd⟩:=iY I.hok e;refine call_meetsIn PySem.F.slot_dict_get dd.typeIs PySem.F.entry_dict_get (PySem.F.args_dict_get_3 _ _ _) (meets_dict_get_default (aw X.prog X.w) a (gf ry) hd r) ⟨_,dd.mapOf,h _ _ (I.tok _) ?_⟩;rw[l];exact (rel.val k).getD rd
 · subst ey;cases (show u=Value.ref b from ry);obtain⟨z,hd,xs,rel,dd⟩:=iX I.hok e;refine call_meetsIn PySem.F.slot_dict_get dd.typeIs PySem.F.entry_dict_get (PySem.F.args_dict_get_3 _ _ _) (meetsH_dict_get_default (tupleKind (aw X.prog X.w)) a b hd r) ⟨tupleKind_room_in1 hu,k,xs,fX I.hok eb,dd,h _ _ (I.tok _) ?_⟩;rw[l];exact (rel.val k).getD rd
end
def ve (td ty tx:TE):TE:=fun σ H Q=>td σ H fun x H1=>∃ a,x=.ref a∧IsD H1 a∧ty σ H1 fun y H2=>tx σ H2 fun z H3=>∃ o,bO H3 a y o∧Q (o.getD z) H3
section
variable {X:Cx} {o e f:Expr} {apos cpos:Pos} {td ty tx:TE}
theorem fA (hu:X.A.units+1<cLine) (ho:PE X o td) (he:PE X e ty) (hf:PE X f tx) (m:M2 X o "get" apos e f cpos):PE X (.Call (.Attribute o "get" apos) [e,f] [] cpos) (ve td ty tx):=by
 intro pins s σ H Q I h;refine wpAny_Call_method m.base m.few m.line PySem.F.plainAttrs_dict PySem.F.slot_dict_get PySem.F.type_dict_get (thn (ho pins s σ H _ I h) fun u s1 zy103=>?_);obtain⟨x,H1,I1,rx,a,ex,d,q1⟩:=zy103;subst ex;obtain rfl:u=Value.ref a:=rx;obtain⟨t1,t2,_⟩:=w4 I1 d;refine⟨t1,t2,?_⟩;rw[m.trees];refine Calls.callWith_builtin rfl (Calls.evalArgs_plain (Calls.spliced_cons (thn (he pins s1 σ H1 _ I1 q1) fun iv s2 zy104=>?_)));obtain⟨y,H2,I2,ry,q2⟩:=zy104;refine Calls.spliced_cons (thn (hf pins s2 σ H2 _ I2 q2) fun fv s3 zy105=>?_);obtain⟨z,H3,I3,rz,ov,g,q3⟩:=zy105;refine Calls.spliced_nil ?_;exact ww hu I3 g ry rz fun w' s4 I4 rw'=>⟨_,H3,I4,rw',q3⟩
end
section
variable {X:Cx} {pins:AOs} {σ:St} {H:Hp} {s:Shared} {a:Addr} {kvs:List (Key×V)} {A:Around} {E:VSP}
end
section
variable {X:Cx} {pins:AOs} {σ:St} {H:Hp} {s:Shared} {a:Addr} {y:V} {u:Value} {A:Around} {E:VSP}
end
section
variable {X:Cx}
def kq (K:Fg):R2:=fun x y H Q=>∃ a b xs ys,x=.ref a∧y=.ref b∧SqT K H a xs∧SqT K H b ys∧xs.length+ys.length≤sizeLine ∧
  (xs=[]→Q (.ref b) H)∧(xs≠[]→ys=[]→Q (.ref a) H)∧(xs≠[]→ys≠[]→∀ p,H p=none→Q (.ref p) (upd H p (.tup (xs++ys))))
theorem cO:OpR X (binaryOp .Add) (kq X.K):=by
 intro pins s σ H x y v u Q I rx ry h;obtain⟨a,b,xs,ys,rfl,rfl,ha,hb,hz,q0,q1,q2⟩:=h;by_cases hx:xs=[]
 · cases rx;cases ry;obtain⟨its,r1,p1,_⟩:=I.tuple ha;obtain⟨its2,r2,p2,_⟩:=I.tuple hb;have e0:its=[]:=r1.nil_iff.mpr hx;subst e0;obtain⟨⟨c1,d1,t1,s1⟩,ho,hc,n,hd⟩:=p1;obtain⟨⟨c2,d2,t2,s2⟩,ho2,hc2,n2,hd2⟩:=p2;simp only at hc hd hc2 hd2;subst hc hd hc2 hd2;exact concat_meets ⟨_,ho,rfl⟩ ⟨_,ho2,rfl⟩ noFill_tuple_add seq_tuple_add PySem.F.slot_tuple_add PySem.F.entry_tuple_add (PySem.F.args_tuple_add_2 _ _) (tuple_addW0 a b _ _ n n2 d1 d2 s1 s2 (by simp)) ⟨ho,ho2,⟨.ref b,H,I,rfl,q0 hx⟩⟩
 · exact sN pins s σ H _ _ v u Q I rx ry ⟨a,b,xs,ys,rfl,rfl,ha,hb,hx,hz,q1 hx,q2 hx⟩
def mU (P:Program) (w:World) (K:Fg) (a:Addr) (kvs:List (Key×V)):Prop:=∃ (o:Obj) (vs:List (Key×Value)),K.lookup a=some o∧o.IsDictOf (aw P w) vs∧KV kvs vs∧(a==sysModules)=false
theorem mU.of {pins:AOs} {σ:St} {H:Hp} {s:Shared} {a:Addr} {kvs:List (Key×V)} (I:Inv X pins σ H s) (h:mU X.prog X.w X.K a kvs):(a==sysModules)=false∧∃ vs,KV kvs vs∧s.heap.DictOf (aw X.prog X.w) a vs:=by
 obtain⟨o,vs,h1,h2,h3,h4⟩:=h;exact⟨h4,vs,h3,Heap.dictOf_iff.mpr ⟨o,I.kIn a o h1,h2⟩⟩
variable {o i:Expr} {pos:Pos} {td ty:TE}
def wY (P:Program) (w:World) (K:Fg) (td ty:TE):TE:=fun σ H Q=>td σ H fun x H1=>ty σ H1 fun y H2=>∃ a kvs k v,x=.ref a∧mU P w K a kvs∧y=kV k∧bi kvs k=some v∧Q v H2
theorem jo (ho:PE X o td) (hi:PE X i ty) (hs:wG i):PE X (.Subscript o i pos) (wY X.prog X.w X.K td ty):=by
 intro pins s σ H Q I h;refine mj PySem.F.slot_dict_getitem.lookup hs (thn (ho pins s σ H _ I h) fun u s1 zz116=>?_);obtain⟨x,H1,I1,rx,q1⟩:=zz116;refine thn (hi pins s1 σ H1 _ I1 q1) fun iv s2 zz117=>?_;obtain⟨y,H2,I2,ry,a,kvs,k,v,ex,g,ey,l,q2⟩:=zz117;subst ex ey;obtain rfl:u=Value.ref a:=rx;obtain⟨hd,vs,rel,dd⟩:=g.of I2;obtain⟨w',hw,rw'⟩:=fN.some_of (v:=v) (o:=valueAt vs k) (by rw[← l];exact rel.val k);exact⟨dd.typeIs,wpAny_getItem_of (gf ry) dd.mapOf hw ⟨v,H2,I2.tok _,rw',q2⟩⟩
end
theorem gc {X:Cx} {elt tg iter:Expr} {ifs:List Expr} {sc:Scope} {pos spos py:Pos} {i0:Nat} {y0:Str} {wi:TI} {g:TG} {tc:TT} {te:TE} {own:List Str} {outs:List (Nat×Str)} (hc:X.calm=true) (S:aL X sc own outs) (hi:PI X tg iter wi)
 (hb:∀ (fp:List Addr) (pins:AOs) (s:Shared) (H:Hp),PG (blk X sc (cJ X.env.cells sc.names []) (eW own outs) fp pins s H) tg g ∧
   rj (blk X sc (cJ X.env.cells sc.names []) (eW own outs) fp pins s H) ifs tc∧PE (blk X sc (cJ X.env.cells sc.names []) (eW own outs) fp pins s H) elt te)
 (hN:X.N.Nodup) (hi0:X.N[i0]?=some y0) (hx0:X.env.scope.names.lookup y0=some .local) (hsw:swapsWith (.ListComp elt [⟨tg,iter,ifs,0⟩] sc pos) (some (.Name y0 py)) spos.line X.env=pure true:=by rfl)
 (hs:∀ x,foldedSetIterable iter X.env x=pure x:=by intro _;rfl):PS X (.Assign [.Name y0 py] (.ListComp elt [⟨tg,iter,ifs,0⟩] sc pos) spos) (rT (tLC wi own.length outs g tc te) (gg i0)):=by
 intro pins s σ H DD I h;rw[exec_Assign_Name_used _ _ _ _ hsw];refine wB (wpAny_standAt (wB ?_));show wpAny _ X.A (do let _ ← comprehension (.ListComp elt [⟨tg,iter,ifs,0⟩] sc pos) sc X.env _ (newList []) false (eval iter X.env) (some (assign (.Name y0 py) X.env))) _ _ s;refine wB (wpAny_mono (Q:=fun _ s'=>∃ σ' H',Inv X pins σ' H' s'∧DD.nx σ' H') ?_ (fun _ s' hq=>wP (wP hq)) fun _ _ e=>e);refine mF hc S hi hb hs I h fun D c m6 H5 s6 I7 n6 f6 cl sz cc cp q=>?_;refine wpAny_assign_Name (iM I7 hN hi0 (.inl hx0) (v:=.ref D) rfl (fun s8 I8 z=>?_) (.inr hx0));obtain⟨a8,sb8,h8⟩:=z;have a8c:c≠a8:=by
  rcases h8 with z | z
  · rw[z];exact cl.symm
  · exact (cc _ _ z).symm
 exact⟨m6,n6.sameBut sb8 a8c,fun h9 sb9=>⟨_,H5,I8.turned (t':=s8.toks) (fun b o hb e=>(sb9.2 b hb).trans e) f6 cl.symm (.inr sz) cc cp,q⟩⟩
mutual
inductive TD (K:Fg) (H:Hp):V→PyData→Prop
  | bl (b:Bool):TD K H (.bl b) (.bool b)
  | int (i:Int):TD K H (.int i) (.int i)
  | str (x:Str):TD K H (.str x) (.str x)
  | tup {a:Addr} {xs:List V} {ds:PDs}:SqT K H a xs→TDs K H xs ds→TD K H (.ref a) (.tuple ds)
inductive TDs (K:Fg) (H:Hp):List V→PDs→Prop
  | nil:TDs K H [] []
  | cons {x:V} {d:PyData} {xs:List V} {ds:PDs}:TD K H x d→TDs K H xs ds→TDs K H (x::xs) (d::ds)
end
def Tk (H H':Hp):Prop:=∀ b xs,Rd H b (.tup xs)→Rd H' b (.tup xs)
section
variable {K:Fg} {H H' H2:Hp}
theorem aj.tk (e:aj H H'):Tk H H':=fun b xs h=>by
 rcases h with h | ⟨o,h⟩
 · exact .inl (e _ _ h)
 · exact .inr ⟨o,e _ _ h⟩
theorem Tk.trans (a:Tk H H') (b:Tk H' H2):Tk H H2:=fun c xs h=>b c xs (a c xs h)
theorem aZ {L:Addr} {o:HO} (h:H L=none∨∃ ys,H L=some (.lst ys)):Tk H (upd H L o):=fun b xs z=>by
 have ne:b≠L:=fun e=>by
  rw[e] at z
  rcases z with z | ⟨_,z⟩ <;> rcases h with h | ⟨ys,h⟩ <;> rw[h] at z <;> cases z
 rcases z with z | ⟨o',z⟩
 · exact .inl (by rw[aa ne];exact z)
 · exact .inr ⟨o',by rw[aa ne];exact z⟩
theorem SqT.tk {a:Addr} {xs:List V} (e:Tk H H') (h:SqT K H a xs):SqT K H' a xs:=by
 rcases h with h | h
 · exact .inl (e _ _ h)
 · exact .inr h
theorem TD.tk (e:Tk H H') {v:V} {d:PyData} (h:TD K H v d):TD K H' v d :=
 TD.rec (motive_1:=fun v d _=>TD K H' v d) (motive_2:=fun xs ds _=>TDs K H' xs ds) (fun b=>.bl b) (fun i=>.int i) (fun x=>.str x) (fun hq _ ih=>.tup (hq.tk e) ih) .nil (fun _ _ a b=>.cons a b) h
theorem TDs.tk (e:Tk H H') {xs:List V} {ds:PDs} (h:TDs K H xs ds):TDs K H' xs ds :=
 TDs.rec (motive_1:=fun v d _=>TD K H' v d) (motive_2:=fun xs ds _=>TDs K H' xs ds) (fun b=>.bl b) (fun i=>.int i) (fun x=>.str x) (fun hq _ ih=>.tup (hq.tk e) ih) .nil (fun _ _ a b=>.cons a b) h
theorem TD.dat {v:V} {d:PyData} (h:TD K H v d):eA K H v d :=
 TD.rec (motive_1:=fun v d _=>eA K H v d) (motive_2:=fun xs ds _=>jb K H xs ds) (fun b=>.bl b) (fun i=>.int i) (fun x=>.str x) (fun hq _ ih=>.tup hq ih) .nil (fun _ _ a b=>.cons a b) h
theorem TD.same {v:V} {d:PyData} (e:aj H H') (h:TD K H v d):TD K H' v d:=h.tk e.tk
theorem TDs.same {v:List V} {d:PDs} (e:aj H H') (h:TDs K H v d):TDs K H' v d:=h.tk e.tk
theorem TDs.length {xs:List V} {ds:PDs} (h:TDs K H xs ds):xs.length=ds.length:=by
 induction xs generalizing ds with
 | nil=>cases h;rfl
 | cons x r ih=>cases h with | cons a b=>rw[List.length_cons,List.length_cons,ih b]
theorem TDs.get {xs:List V} {ds:PDs} (h:TDs K H xs ds):∀ {i:Nat} {x:V},xs[i]?=some x→∃ d,ds[i]?=some d∧TD K H x d:=by
 induction xs generalizing ds with
 | nil=>intro i x z;simp at z
 | cons y r ih =>
  cases h with
  | cons a b =>
   intro i x z;cases i with
   | zero=>cases z;exact⟨_,rfl,a⟩
   | succ i=>exact ih b z
theorem TDs.snoc {xs:List V} {ds:PDs} {v:V} {d:PyData} (h:TDs K H xs ds) (hv:TD K H v d):TDs K H (xs++[v]) (ds++[d]):=by
 induction xs generalizing ds with
 | nil=>cases h;exact .cons hv .nil
 | cons y r ih=>cases h with | cons a b=>exact .cons a (ih b)
theorem TDs.drop {xs:List V} {ds:PDs} (h:TDs K H xs ds):∀ n,TDs K H (xs.drop n) (ds.drop n):=by
 induction xs generalizing ds with
 | nil=>cases h;intro n;cases n <;> exact .nil
 | cons y r ih =>
  cases h with
  | cons a b =>
   intro n;cases n with
   | zero=>exact .cons a b
   | succ n=>exact ih b n
theorem TDs.app {xs ys:List V} {ds es:PDs} (h:TDs K H xs ds) (h2:TDs K H ys es):TDs K H (xs++ys) (ds++es):=by
 induction xs generalizing ds with
 | nil=>cases h;exact h2
 | cons y r ih=>cases h with | cons a b=>exact .cons a (ih b)
theorem TD.int_of {v:V} {i:Int} (h:TD K H v (.int i)):v=.int i:=by cases h;rfl
theorem TD.str_of {v:V} {x:Str} (h:TD K H v (.str x)):v=.str x:=by cases h;rfl
theorem TD.tup_of {v:V} {ds:PDs} (h:TD K H v (.tuple ds)):∃ a xs,v=.ref a∧SqT K H a xs∧TDs K H xs ds:=by
 cases h with
 | tup hq hd=>exact⟨_,_,rfl,hq,hd⟩
end
theorem aD {H H2:Hp} {p:Addr} {o:HO} (s:aj H H2) (h:H p=none):aj H (upd H2 p o):=fun b u e=>by
 rw[aa (bF e h)];exact s b u e
theorem smu {H:Hp} {L:Addr} {o:HO} (h:H L=none):aj H (upd H L o):=fun b u e=>by rw[aa (bF e h)];exact e
theorem b5.dat {K:Fg} {n:Nat} {J:It} {xs:List V} {Ok:Hp→Prop} (y:de J xs Ok) {g:TG} {tc:TT} {te:TE} {Q:VK} {σ0:St} {H1:Hp} {L:Addr} {ds:PDs} (hlen:xs.length=ds.length) (hz:xs.length≤1000) (hL:H1 L=none) (hOk:∀ H,aj H1 H→Ok H)
 (hs:∀ (i:Nat) (x:V) (d:PyData) (σ:St) (H:Hp) (R:V→St→Hp→Prop) (T:St→Hp→Prop),xs[i]?=some x→ds[i]?=some d→aj H1 H→σ.drop n=σ0.drop n→σ.length=σ0.length →
   (∀ (v:V) (σ':St) (H':Hp),aj H H'→TD K H' v d→σ'.drop n=σ0.drop n→σ'.length=σ0.length→R v σ' H')→g x σ H fun σ3 H3=>tc σ3 H3 fun b H4=>if b=true then te σ3 H4 fun v H5=>R v σ3 H5 else T σ3 H4)
 (hQ:∀ (H:Hp) (ys:List V),aj H1 H→H L=some (.lst ys)→TDs K H ys ds→Q (.ref L) H):b5 J g tc te Q σ0 H1 L:=by
 refine b5.by y (fun i σ H=>aj H1 H∧(∃ ys,H L=some (.lst ys)∧TDs K H ys (ds.take i))∧σ.drop n=σ0.drop n∧σ.length=σ0.length) ⟨smu hL,⟨[],pG,.nil⟩,rfl,rfl⟩ (fun i σ H _ h=>hOk H h.1) ?_ ?_
 · rintro i x σ H hx ⟨sm,⟨ys,hy,hd⟩,e1,e2⟩;have hi:i<xs.length:=(gES.mp hx).1;have hdi:ds[i]?=some (ds[i]'(by lia)):=gEE (by lia);refine hs i x _ σ H _ _ hx hdi sm e1 e2 fun v σ' H' s' hv e3 e4=>?_;have hy':=s' _ _ hy;have tk:=aZ (o:=HO.lst (ys++[v])) (.inr ⟨_,hy'⟩);refine⟨ys,hy',?_,aD (sm.trans s') hL,⟨_,pG,?_⟩,e3,e4⟩
   · have:=hd.length;rw[lTk] at this;have:(1000:Nat)<sizeLine:=by decide
     lia
   · rw[tAO,hdi];exact (hd.same s' |>.snoc hv).tk tk
 · rintro σ H ⟨sm,⟨ys,hy,hd⟩,_,_⟩;rw[hlen,List.take_length] at hd;exact hQ H ys sm hy hd
section
variable {X:Cx} {p pos apos cpos:Pos} {e:Expr} {es:List Expr} {t:TA} {o:Expr} {to:TE}
end
end L2
namespace L2
open PySem PySem.Spec PyProof.Rows
theorem iz:typeLookup (.type "tuple") (dunderI "add")=pure none:=by rw[typeLookup_type];kernel_rfl
section
variable {X:Cx}
theorem mH:PIp X .Add (kq X.K):=by
 intro pins s σ H x y v u Q I rx ry h;obtain⟨a,b,xs,ys,rfl,rfl,ha,hb,hz,q0,q1,q2⟩:=h;cases rx;cases ry;obtain⟨its,r1,p1,_⟩:=I.tuple ha;obtain⟨its2,r2,p2,_⟩:=I.tuple hb;obtain⟨⟨c1,d1,t1,s1⟩,ho,hc,n,hd⟩:=p1;obtain⟨⟨c2,d2,t2,s2⟩,ho2,hc2,n2,hd2⟩:=p2;simp only at hc hd hc2 hd2;subst hc hd hc2 hd2;have hsz:its.length+its2.length≤sizeLine:=by rw[← r1.length,← r2.length];exact hz
 have ht:s.TypeIs (.ref a) "tuple":=⟨_,ho,rfl⟩;have ht2:s.TypeIs (.ref b) "tuple":=⟨_,ho2,rfl⟩;refine wpAny_inplaceOp_concat ht ht2 iz noFill_tuple_add seq_tuple_add ?_;by_cases hx:its=[]
 · exact call_meets PySem.F.slot_tuple_add ht PySem.F.entry_tuple_add (PySem.F.args_tuple_add_2 _ _) (tuple_addW0 a b _ _ n n2 d1 d2 s1 s2 (by simp[hx])) ⟨ho,ho2,⟨.ref b,H,I,rfl,q0 (r1.nil_iff.mp hx)⟩⟩
 · by_cases hy:its2=[]
   · exact call_meets PySem.F.slot_tuple_add ht PySem.F.entry_tuple_add (PySem.F.args_tuple_add_2 _ _) (tuple_addW1 a b _ _ n n2 d1 d2 s1 s2 (by simpa using hx) (by simp[hy])) ⟨ho,ho2,⟨.ref a,H,I,rfl,q1 (fun z=>hx (r1.nil_iff.mpr z)) (r2.nil_iff.mp hy)⟩⟩
   · refine call_meets PySem.F.slot_tuple_add ht PySem.F.entry_tuple_add (PySem.F.args_tuple_add_2 _ _) (tuple_addW2 a b _ _ n n2 d1 d2 s1 s2 (by simpa using hx) (by simpa using hy) (by rw[List.size_toArray,List.size_toArray];exact hsz)) ⟨ho,ho2,?_⟩;have e:its.toArray++its2.toArray=(its++its2).toArray:=by simp
     rw[e];refine⟨.ref s.heap.objs.size,_,I.laid (t':=s.toks) (o:=.tup (xs++ys)) (fun b ob q=>hpS _ q) (Nat.le_refl _) ?_,rfl,q2 (fun z=>hx (r1.nil_iff.mpr z)) (fun z=>hy (r2.nil_iff.mpr z)) _ (I.hok.fresh (Nat.le_refl _))⟩;exact⟨by rw[lAp];exact hz,_,r1.append r2,IsTup.new _ _⟩
end
structure Drw (prog:Program) (w:World) (i src:Addr) (xs:Array Value) (J:Nat→Heap→Prop):Prop where
  ext:∀ k h h',J k h→(∀ o,h.get? i=some o→h'.get? i=some o)→(∀ o,h.get? src=some o→h'.get? src=some o)→J k h'
  item:∀ (A:Around) (E:VSP) (s:Shared) (k:Nat) (x:Value) (Q:VSP),J k s.heap→xs[k]?=some x→(∀ h',J (k+1) h'→Heap.SameBut i s.heap h'→Q x {s with heap:=h'}) →
    wpAny (model prog w) A (Builtin.SmallTypes.nextOf (.ref i)) Q E s
  stop:∀ (A:Around) (E:VSP) (s:Shared) (k:Nat) (Q:VSP),A.handled=none→J k s.heap→xs[k]?=none→(∀ h' e,Heap.ExtBut i s.heap h'→(∃ o,h'.get? e=some o∧o.cls=.type "StopIteration")→E (.ref e) {s with heap:=h'}) →
    wpAny (model prog w) A (Builtin.SmallTypes.nextOf (.ref i)) Q E s
theorem eg {prog:Program} {w:World} (i t:Addr) (hne:t≠i) (xs:Array Value):Drw prog w i t xs (fun k h=>h.IsTupleIter i t k∧h.IsTuple t xs) where
 ext:=fun k h h' ⟨⟨o,a,r⟩,o2,a2,r2⟩ e1 e2=>⟨⟨o,e1 o a,r⟩,o2,e2 o2 a2,r2⟩
 item:=by
  rintro A E s k x Q ⟨st,ht⟩ hx q;obtain⟨o,ho,hc,hd⟩:=id st;obtain⟨ot,hot,ct,nt,dt⟩:=id ht;unfold Builtin.SmallTypes.nextOf;refine wB (wpAny_callSpecial?_slot (name:=Str.ofString "__next__") st.typeIs F.slot_tuple_iterator_next (wpAny_call_entry F.slot_tuple_iterator_next st.typeIs F.entry_tuple_iterator_next ?_ (F.args_tuple_iterator_next_1 _)));show wpAny _ _ (field (.ref i) 0>>=_) _ _ s;refine wB (wpAny_field ho hd (x:=.ref t) rfl ?_);show wpAny _ _ (if (Value.ref t==Value.none)=true then _ else _) _ _ s;rw[if_neg (fun z=>Bool.false_ne_true (show (Value.ref t==Value.none)=true from z))];show wpAny _ _ (field (.ref i) 1>>=_) _ _ s;refine wB (wpAny_field ho hd (x:=.int k 0) rfl ?_);show wpAny _ _ (seqItems? (.ref t)>>=_) _ _ s;refine wB (wpAny_seqItems hot dt ?_);simp only[Int.toNat_natCast,hx];refine wB (wpAny_setField ho hd (by simp) (wP ⟨x,rfl,wP (q _ ⟨?_,ht.extBut (Heap.SameBut.update ..).extBut hne⟩ (Heap.SameBut.update ..))⟩));exact⟨_,Heap.get?_update_self _ ho (Obj.isFreed_of_fields (Obj.data_mapFields hd _)),(Obj.cls_mapFields ..).trans hc,by rw[Obj.data_mapFields hd];simp[rawInt]⟩
 stop:=by
  rintro A E s k Q hh ⟨st,ht⟩ hx q;obtain⟨o,ho,hc,hd⟩:=id st;obtain⟨ot,hot,ct,nt,dt⟩:=id ht;unfold Builtin.SmallTypes.nextOf;refine wB (wpAny_callSpecial?_slot (name:=Str.ofString "__next__") st.typeIs F.slot_tuple_iterator_next (wpAny_call_entry F.slot_tuple_iterator_next st.typeIs F.entry_tuple_iterator_next ?_ (F.args_tuple_iterator_next_1 _)));show wpAny _ _ (field (.ref i) 0>>=_) _ _ s;refine wB (wpAny_field ho hd (x:=.ref t) rfl ?_);show wpAny _ _ (if (Value.ref t==Value.none)=true then _ else _) _ _ s;rw[if_neg (fun z=>Bool.false_ne_true (show (Value.ref t==Value.none)=true from z))];show wpAny _ _ (field (.ref i) 1>>=_) _ _ s;refine wB (wpAny_field ho hd (x:=.int k 0) rfl ?_);show wpAny _ _ (seqItems? (.ref t)>>=_) _ _ s;refine wB (wpAny_seqItems hot dt ?_);simp only[Int.toNat_natCast,hx];refine wB (wpAny_rule (wB (wpAny_setField ho hd (by simp) ?_)));show wpAny _ _ (newExc (.type "StopIteration") []>>=_) _ _ _;refine wB ?_;simp only[newExc,newTuple];refine wB (wpAny_newObj_type ?_ (by size_fits));refine wB (m:=firstArgMember _ _) (wpAny_of_eq (a:=Value.none) (by first | rfl | (simp only[firstArgMember];rfl)) ?_);refine wpAny_newObj_type ?_ (by size_fits);simp only[raiseNew];refine wB (wpAny_handled ?_);first | rw[show A.in1.handled=none from hh] | rw[hh]
  refine wB (wP (wpAny_throw ?_));exact q _ _ (((Heap.SameBut.update ..).extBut.push _).push _) ⟨_,Heap.get?_push_size _ rfl,rfl⟩
section
variable {prog:Program} {w:World} {A:Around} {E:VSP} {s:Shared} {z TI TO i1 i2 l1 l2:Addr} {k:Nat} {xs ys:Array Value} {J1 J2:Nat→Heap→Prop} {a b x y:Value}
structure ZAp (z TI TO i1 i2 l1 l2:Addr):Prop where
  z_:TI≠z∧TO≠z∧i1≠z∧i2≠z∧l1≠z∧l2≠z
  o_:TI≠TO∧i1≠TO∧i2≠TO∧l1≠TO∧l2≠TO
  i_:TI≠i1∧TI≠i2∧i1≠i2
  l_:l1≠i1∧l1≠i2∧l2≠i1∧l2≠i2
theorem aJ {c:Addr} {h h':Heap} {b:Addr} {o:Obj} (e:Heap.SameBut b h h') (n:c≠b) (g:h.get? c=some o):h'.get? c=some o:=(e.2 c n).trans g
theorem mW {Q:VSP} (D:ZAp z TI TO i1 i2 l1 l2) (R1:Drw prog w i1 l1 xs J1) (R2:Drw prog w i2 l2 ys J2) (hz:IsZip s.heap z TI TO .none) (hTI:IsPair s.heap TI (.ref i1) (.ref i2)) (hTO:IsPair s.heap TO a b)
 (h1:J1 k s.heap) (h2:J2 k s.heap) (hx:xs[k]?=some x) (hy:ys[k]?=some y)
 (hQ:∀ h',IsZip h' z TI TO (rawInt s.heap.objs.size)→IsPair h' TO x y→J1 (k+1) h'→J2 (k+1) h'→IsPair h' s.heap.objs.size x y→(∀ c o,c≠z→c≠TO→c≠i1→c≠i2→s.heap.get? c=some o→h'.get? c=some o)→Q (.ref s.heap.objs.size) {s with heap:=h'}) :
 wpAny (model prog w) A (Builtin.«zip.__next__» ⟨[.ref z],[]⟩) (fun fin s'=>∃ v,fin=.done (.ret v)∧Q v s') E s:=by
 obtain⟨z1,z2,z3,z4,z5,z6⟩:=D.z_;obtain⟨o1,o2,o3,o4,o5⟩:=D.o_;obtain⟨j1,j2,j3⟩:=D.i_;obtain⟨m1,m2,m3,m4⟩:=D.l_;show wpAny _ _ (field (.ref z) 2>>=_) _ _ _;refine wB (wpAny_field hz rfl (x:=.bool false) rfl ?_);show wpAny _ _ (field (.ref z) 3>>=_) _ _ _;refine wB (wpAny_field hz rfl (x:=.ref TI) rfl ?_);refine wB (wpAny_seqItems hTI rfl ?_);show wpAny _ _ (Builtin.SmallTypes.ownedTupleIsFree (.ref z)>>=_) _ _ _;refine wB ?_;unfold Builtin.SmallTypes.ownedTupleIsFree;refine wB (wpAny_field hz rfl (x:=.none) rfl (wP ?_));simp only[if_true];refine wB (wpAny_rule ?_);refine wB (wpAny_field hz rfl (x:=.ref TO) rfl ?_);refine wB (wpAny_setField_rec hz (by simp) fun g1 gz1 gs1=>?_);have gz1':IsZip g1 z TI TO .ellipsis:=gz1;refine wB ?_;simp only[List.zipIdx_cons,List.zipIdx_nil,List.forIn_cons,List.forIn_nil];refine wB (wB (wpAny_onRaise ?_));show wpAny _ _ (Builtin.SmallTypes.nextOf (.ref i1)>>=_) _ _ _;have J11:J1 k g1:=R1.ext k _ _ h1 (fun o e=>aJ gs1 z3 e) (fun o e=>aJ gs1 z5 e);refine wB (R1.item _ _ {s with heap:=g1} k x _ J11 hx fun g2 J12 gs2=>wP ?_);have t2:IsPair g2 TO a b:=aJ gs2 (Ne.symm o2) (aJ gs1 z2 hTO);refine wB (wpAny_seqItems t2 rfl ?_);refine wB (wpAny_updateSeq_pair t2 fun g3 t3 gs3=>?_);have t3':IsPair g3 TO x b:=t3;refine wB (wpAny_letGo (wP ?_));refine wB (wB (wpAny_onRaise ?_));show wpAny _ _ (Builtin.SmallTypes.nextOf (.ref i2)>>=_) _ _ _;have J23:J2 k g3:=R2.ext k _ _ h2 (fun o e=>aJ gs3 o3 (aJ gs2 (Ne.symm j3) (aJ gs1 z4 e))) (fun o e=>aJ gs3 o5 (aJ gs2 m3 (aJ gs1 z6 e)));refine wB (R2.item _ _ {s with heap:=g3} k y _ J23 hy fun g4 J24 gs4=>wP ?_);have t4:IsPair g4 TO x b:=aJ gs4 (Ne.symm o3) t3';refine wB (wpAny_seqItems t4 rfl ?_);refine wB (wpAny_updateSeq_pair t4 fun g5 t5 gs5=>?_);have t5':IsPair g5 TO x y:=t5;refine wB (wpAny_letGo (wP (wP ?_)));refine wB (wpAny_seqItems t5' rfl ?_);refine wB (wpAny_newTuple ?_);have sz:g5.objs.size=s.heap.objs.size:=by rw[gs5.1,gs4.1,gs3.1,gs2.1,gs1.1]
 have zz5:IsZip g5 z TI TO .ellipsis:=aJ gs5 (Ne.symm z2) (aJ gs4 (Ne.symm z4) (aJ gs3 (Ne.symm z2) (aJ gs2 (Ne.symm z3) gz1')));have kp:∀ c o,c≠z→c≠TO→c≠i1→c≠i2→s.heap.get? c=some o→g5.get? c=some o:=fun c o c1 c2 c3 c4 e=>aJ gs5 c2 (aJ gs4 c4 (aJ gs3 c2 (aJ gs2 c3 (aJ gs1 c1 e))));have J15:J1 (k+1) g5:=R1.ext _ _ _ J12 (fun o e=>aJ gs5 o2 (aJ gs4 j3 (aJ gs3 o2 e))) (fun o e=>aJ gs5 o4 (aJ gs4 m2 (aJ gs3 o4 e)));have J25:J2 (k+1) g5:=R2.ext _ _ _ J24 (fun o e=>aJ gs5 o3 e) (fun o e=>aJ gs5 o5 e);have lz:z<g5.objs.size:=Heap.lt_size zz5;show wpAny _ _ (Builtin.SmallTypes.ownedTupleHandOut (.ref z) (.ref g5.objs.size)>>=_) _ _ _;refine wB ?_;unfold Builtin.SmallTypes.ownedTupleHandOut;have zz6:IsZip (g5.push {cls:=.type "tuple",data:=.seq #[x,y]}) z TI TO .ellipsis:=hpS _ zz5;refine wB (wpAny_setField_rec zz6 (by simp) fun g7 zz7 gs7=>?_);have zz7':IsZip g7 z TI TO (rawInt g5.objs.size):=zz7;refine wpAny_setField_rec zz7' (by simp) fun g8 zz8 gs8=>?_;have zz8':IsZip g8 z TI TO (rawInt g5.objs.size):=zz8;have up:∀ c o,c≠z→g5.get? c=some o→g8.get? c=some o:=fun c o c1 e=>aJ gs8 c1 (aJ gs7 c1 (hpS _ e));have pT:IsPair g8 g5.objs.size x y:=aJ gs8 (Nat.ne_of_gt lz) (aJ gs7 (Nat.ne_of_gt lz) (Heap.get?_push_size _ rfl));rw[sz] at zz8' pT;refine wP ⟨_,rfl,?_⟩;show Q (.ref g5.objs.size) _;rw[sz];exact hQ g8 zz8' (up _ _ z2 t5') (R1.ext _ _ _ J15 (fun o e=>up _ o z3 e) fun o e=>up _ o z5 e) (R2.ext _ _ _ J25 (fun o e=>up _ o z4 e) fun o e=>up _ o z6 e) pT fun c o c1 c2 c3 c4 e=>up c o c1 (kp c o c1 c2 c3 c4 e)
theorem oG {Q:Fin→Shared→Prop} (hh:A.handled=none) (D:ZAp z TI TO i1 i2 l1 l2) (R1:Drw prog w i1 l1 xs J1) (R2:Drw prog w i2 l2 ys J2) (hz:IsZip s.heap z TI TO .none) (hTI:IsPair s.heap TI (.ref i1) (.ref i2)) (hTO:IsPair s.heap TO a b)
 (h1:J1 k s.heap) (h2:J2 k s.heap) (hend:xs[k]?=none∨ys[k]?=none)
 (hE:∀ h' e,(∀ c o,c≠z→c≠TO→c≠i1→c≠i2→s.heap.get? c=some o→h'.get? c=some o)→(∃ o,h'.get? e=some o∧o.cls=.type "StopIteration")→E (.ref e) {s with heap:=h'}) :
 wpAny (model prog w) A (Builtin.«zip.__next__» ⟨[.ref z],[]⟩) Q E s:=by
 obtain⟨z1,z2,z3,z4,z5,z6⟩:=D.z_;obtain⟨o1,o2,o3,o4,o5⟩:=D.o_;obtain⟨j1,j2,j3⟩:=D.i_;obtain⟨m1,m2,m3,m4⟩:=D.l_;show wpAny _ _ (field (.ref z) 2>>=_) _ _ _;refine wB (wpAny_field hz rfl (x:=.bool false) rfl ?_);show wpAny _ _ (field (.ref z) 3>>=_) _ _ _;refine wB (wpAny_field hz rfl (x:=.ref TI) rfl ?_);refine wB (wpAny_seqItems hTI rfl ?_);show wpAny _ _ (Builtin.SmallTypes.ownedTupleIsFree (.ref z)>>=_) _ _ _;refine wB ?_;unfold Builtin.SmallTypes.ownedTupleIsFree;refine wB (wpAny_field hz rfl (x:=.none) rfl (wP ?_));simp only[if_true];refine wB (wpAny_rule ?_);refine wB (wpAny_field hz rfl (x:=.ref TO) rfl ?_);refine wB (wpAny_setField_rec hz (by simp) fun g1 gz1 gs1=>?_);have gz1':IsZip g1 z TI TO .ellipsis:=gz1;refine wB ?_;simp only[List.zipIdx_cons,List.zipIdx_nil,List.forIn_cons,List.forIn_nil];refine wB (wB (wpAny_onRaise ?_));show wpAny _ _ (Builtin.SmallTypes.nextOf (.ref i1)>>=_) _ _ _;have J11:J1 k g1:=R1.ext k _ _ h1 (fun o e=>aJ gs1 z3 e) (fun o e=>aJ gs1 z5 e);cases hx:xs[k]? with
 | none =>
  refine wB (R1.stop _ _ {s with heap:=g1} k _ hh J11 hx fun g2 e gs2 he=>?_);obtain⟨oe,hoe,hce⟩:=he;have zz2:IsZip g2 z TI TO .ellipsis:=gs2 _ _ (Ne.symm z3) gz1';have ez:e≠z:=fun q=>by subst q;rw[zz2] at hoe;cases hoe;simp at hce
  refine wpAny_setField_rec zz2 (by simp) fun g3 _ gs3=>hE g3 e (fun c o c1 _ c3 _ q=>aJ gs3 c1 (gs2 _ _ c3 (aJ gs1 c1 q))) ⟨oe,aJ gs3 ez hoe,hce⟩
 | some x =>
  have hy:ys[k]?=none:=hend.resolve_left (by rw[hx];simp);refine wB (R1.item _ _ {s with heap:=g1} k x _ J11 hx fun g2 J12 gs2=>wP ?_);have t2:IsPair g2 TO a b:=aJ gs2 (Ne.symm o2) (aJ gs1 z2 hTO);refine wB (wpAny_seqItems t2 rfl ?_);refine wB (wpAny_updateSeq_pair t2 fun g3 t3 gs3=>?_);refine wB (wpAny_letGo (wP ?_));refine wB (wB (wpAny_onRaise ?_));show wpAny _ _ (Builtin.SmallTypes.nextOf (.ref i2)>>=_) _ _ _;have J23:J2 k g3:=R2.ext k _ _ h2 (fun o e=>aJ gs3 o3 (aJ gs2 (Ne.symm j3) (aJ gs1 z4 e))) (fun o e=>aJ gs3 o5 (aJ gs2 m3 (aJ gs1 z6 e)));refine wB (R2.stop _ _ {s with heap:=g3} k _ hh J23 hy fun g4 e gs4 he=>?_);obtain⟨oe,hoe,hce⟩:=he;have zz4:IsZip g4 z TI TO .ellipsis:=gs4 _ _ (Ne.symm z4) (aJ gs3 (Ne.symm z2) (aJ gs2 (Ne.symm z3) gz1'));have ez:e≠z:=fun q=>by subst q;rw[zz4] at hoe;cases hoe;simp at hce
  refine wpAny_setField_rec zz4 (by simp) fun g5 _ gs5=>hE g5 e (fun c o c1 c2 c3 c4 q=>aJ gs5 c1 (gs4 _ _ c4 (aJ gs3 c2 (aJ gs2 c3 (aJ gs1 c1 q))))) ⟨oe,aJ gs5 ez hoe,hce⟩
end
section
variable {X:Cx} {pins:AOs} {σ:St} {H:Hp} {s:Shared} {h2:Heap} {t':Nat} {ch:List Addr} {o:HO}
theorem Inv.turnedAll (I:Inv X pins σ H s) (hch:∀ b∈ch,ip X pins H b) (keep:∀ b u,b∉ch→s.heap.get? b=some u→h2.get? b=some u):Inv X pins σ H {s with heap:=h2,toks:=t'}:=by
 have nt:∀ {b:Addr} {u:HO},H b=some u→b∉ch:=fun {b u} q z=>by rw[(hch b z).1] at q;cases q
 refine I.step (g':=s.gens) (d':=s.drawn) (ch:=ch) (fun b hb=>⟨(hch b hb).2.2.2.1,(hch b hb).2.1,(hch b hb).2.2.2.2.1,(hch b hb).2.2.2.2.2⟩) (fun b u _ _ hc z _=>keep b u hc z) (fun b u _ _ hc z _=>⟨u.slots,keep b u hc z⟩) (fun _ _ _ _ n=>n)
  (fun b u hc z=>⟨u,keep b u hc z⟩) (fun _ _ z=>z) (fun _ _ _ z=>z) (fun b ps z=>⟨#[],by rw[z];simp⟩) (fun m hm=>?_) (fun b u z=>?_) I.bare
 · obtain⟨o,es,ep,ho,r⟩:=hm;exact⟨o,es,ep,keep _ o (fun z=>(hch _ z).2.1 rfl) ho,r⟩
 · refine (I.hok b u z).stay (fun c v hc zc=>keep c v ?_ zc) (fun _ q=>q) fun _ _ q=>q
   rcases hc with rfl | hc
   · exact nt z
   · exact nt hc
theorem Inv.turnedNew (I:Inv X pins σ H s) (hch:∀ b∈ch,ip X pins H b) (keep:∀ b u,b∉ch→s.heap.get? b=some u→h2.get? b=some u) (new:bb X.prog X.w (upd H s.heap.objs.size o) h2 s.heap.objs.size o) :
 Inv X pins σ (upd H s.heap.objs.size o) {s with heap:=h2,toks:=t'}:=by
 have hfr:H s.heap.objs.size=none:=I.hok.fresh (Nat.le_refl _);have nt:∀ {b:Addr} {u:HO},H b=some u→b∉ch:=fun {b u} q z=>by rw[(hch b z).1] at q;cases q
 have nd:∀ {b:Addr} {u:HO},H b=some u→b≠s.heap.objs.size:=fun {b u} q z=>by rw[z,hfr] at q;cases q
 refine I.step (g':=s.gens) (d':=s.drawn) (ch:=ch) (fun b hb=>⟨(hch b hb).2.2.2.1,(hch b hb).2.1,(hch b hb).2.2.2.2.1,(hch b hb).2.2.2.2.2⟩) (fun b u _ _ hc z _=>keep b u hc z) (fun b u _ _ hc z _=>⟨u.slots,keep b u hc z⟩) (fun b u _ z n=>by rw[aa (Nat.ne_of_lt (Heap.lt_size z))];exact n)
  (fun b u hc z=>⟨u,keep b u hc z⟩) (fun b xs z=>by rw[aa (nd z)];exact z) (fun b u v z=>by rw[aa (nd z)];exact z) (fun b ps z=>⟨#[],by rw[aa (nd z),z];simp⟩) (fun m hm=>?_) (fun b u z=>?_) I.bare
 · obtain⟨o,es,ep,ho,r⟩:=hm;exact⟨o,es,ep,keep _ o (fun z=>(hch _ z).2.1 rfl) ho,r⟩
 · by_cases hb:b=s.heap.objs.size
   · rw[hb,pG] at z;cases z;rw[hb];exact new
   · rw[aa hb] at z;refine (I.hok b u z).stay (fun c v hc zc=>keep c v ?_ zc) (fun c zc=>by rw[aa (nd zc)];exact zc) fun c xs zc=>by rw[aa (nd zc)];exact zc
     rcases hc with rfl | hc
     · exact nt z
     · exact nt hc
end
theorem cI {h:Heap} {a b:Addr} {oa ob:Obj} (ha:h.get? a=some oa) (hb:h.get? b=some ob) (hc:oa.cls≠ob.cls):a≠b:=fun z=>by
 rw[z,hb] at ha;cases ha;exact hc rfl
theorem qO:bootBuiltins "zip"=some (.type "zip"):=by decide +kernel
section
variable {prog:Program} {w:World} {A:Around} {E:VSP} {s:Shared} {z TI TO i1 i2 l1 l2:Addr} {k:Nat} {xs ys:Array Value} {J1 J2:Nat→Heap→Prop} {a b x y:Value}
theorem lr {Q:Option Value→Shared→Prop} (D:ZAp z TI TO i1 i2 l1 l2) (R1:Drw prog w i1 l1 xs J1) (R2:Drw prog w i2 l2 ys J2) (hz:IsZip s.heap z TI TO .none) (hTI:IsPair s.heap TI (.ref i1) (.ref i2)) (hTO:IsPair s.heap TO a b)
 (h1:J1 k s.heap) (h2:J2 k s.heap) (hx:xs[k]?=some x) (hy:ys[k]?=some y)
 (hQ:∀ h',IsZip h' z TI TO (rawInt s.heap.objs.size)→IsPair h' TO x y→J1 (k+1) h'→J2 (k+1) h'→IsPair h' s.heap.objs.size x y→(∀ c o,c≠z→c≠TO→c≠i1→c≠i2→s.heap.get? c=some o→h'.get? c=some o)→Q (some (.ref s.heap.objs.size)) {s with heap:=h'}) :
 wpAny (model prog w) A (pyNext (.ref z)) Q E s:=by
 have ty:s.TypeIs (.ref z) "zip":=⟨_,hz,rfl⟩;unfold pyNext;exact wB (wpAny_attempt (wpAny_callSpecial?_slot (name:=Str.ofString "__next__") ty F.slot_zip_next (wpAny_call_entry F.slot_zip_next ty F.entry_zip_next (mW D R1 R2 hz hTI hTO h1 h2 hx hy fun h' a1 a2 a3 a4 a5 a6=>wP (hQ h' a1 a2 a3 a4 a5 a6)) (F.args_zip_next_1 _))))
theorem nL {Q:Option Value→Shared→Prop} (hh:A.handled=none) (D:ZAp z TI TO i1 i2 l1 l2) (R1:Drw prog w i1 l1 xs J1) (R2:Drw prog w i2 l2 ys J2) (hz:IsZip s.heap z TI TO .none) (hTI:IsPair s.heap TI (.ref i1) (.ref i2)) (hTO:IsPair s.heap TO a b)
 (h1:J1 k s.heap) (h2:J2 k s.heap) (hend:xs[k]?=none∨ys[k]?=none)
 (hQ:∀ h',(∀ c o,c≠z→c≠TO→c≠i1→c≠i2→s.heap.get? c=some o→h'.get? c=some o)→Q none {s with heap:=h'}):wpAny (model prog w) A (pyNext (.ref z)) Q E s:=by
 have ty:s.TypeIs (.ref z) "zip":=⟨_,hz,rfl⟩;unfold pyNext;refine wB (wpAny_attempt (wpAny_callSpecial?_slot (name:=Str.ofString "__next__") ty F.slot_zip_next (wpAny_call_entry F.slot_zip_next ty F.entry_zip_next (oG hh D R1 R2 hz hTI hTO h1 h2 hend fun h' e hk he=>?_) (F.args_zip_next_1 _))));obtain⟨o,ho,hc⟩:=he;exact wB (wpAny_isInstance (T:="StopIteration") (b:=true) ⟨o,ho,hc⟩ isSubtype_stop (wP (hQ _ hk)))
end
abbrev zt1 (h:Heap) (a:Addr):Heap:=h.push {cls:=.type "tuple_iterator",data:=.fields #[.ref a,.int 0 0]}
abbrev zt2 (h:Heap) (a b:Addr):Heap:=zt1 (zt1 h a) b
abbrev zt3 (h:Heap) (a b:Addr):Heap:=(zt2 h a b).push {cls:=.type "tuple",data:=.seq #[.ref h.objs.size,.ref (zt1 h a).objs.size]}
abbrev zt4 (h:Heap) (a b:Addr):Heap:=(zt3 h a b).push {cls:=.type "tuple",data:=.seq #[.none,.none]}
abbrev zt5 (h:Heap) (a b:Addr):Heap:=(zt4 h a b).push {cls:=.type "zip",data:=.fields #[.none,.bool false,.bool false,.ref (zt2 h a b).objs.size,.ref (zt3 h a b).objs.size]}
theorem lA (a b:Addr) (xs ys:Array Value):Meets (Builtin.«zip.__new__» ⟨[.type "zip",.ref a,.ref b],[]⟩) (fun _ R s=>s.heap.IsTuple a xs∧s.heap.IsTuple b ys∧R (.ok (.ret (.ref (zt4 s.heap a b).objs.size))) {s with heap:=zt5 s.heap a b}) :=
 .of_wp fun prog w A R s h=>by
  obtain⟨hp,g,d,tk,os⟩:=s;obtain⟨ha,hb,h⟩:=h;have sub:=sub_zip;have e1:Heap.IsTuple (Shared.heap ⟨hp,g,d,tk,os⟩) a xs:=ha;have e2:Heap.IsTuple (Shared.heap ⟨zt1 hp a,g,d,tk,os⟩) b ys:=Heap.IsTuple.push hb _
  wp_walk using wpAny_pyIter_tuple e1,wpAny_pyIter_tuple e2
  exact⟨_,rfl,h⟩
theorem og {prog:Program} {w:World} {A:Around} {E:VSP} {s:Shared} {a b:Addr} {xs ys:Array Value} {Q:VSP} (ha:s.heap.IsTuple a xs) (hb:s.heap.IsTuple b ys)
 (h:∀ h',IsZip h' (s.heap.objs.size+4) (s.heap.objs.size+2) (s.heap.objs.size+3) .none→IsPair h' (s.heap.objs.size+2) (.ref s.heap.objs.size) (.ref (s.heap.objs.size+1))→IsPair h' (s.heap.objs.size+3) .none .none →
   h'.IsTupleIter s.heap.objs.size a 0→h'.IsTupleIter (s.heap.objs.size+1) b 0→(∀ c o,s.heap.get? c=some o→h'.get? c=some o)→Q (.ref (s.heap.objs.size+4)) {s with heap:=h'}) :
 wpAny (model prog w) A (call (.type "zip") [.ref a,.ref b]) Q E s:=by
 refine callType_new F.called_zip (by decide) (F.typeCall_zip_2 _ _) (F.newCall_zip_2 _ _) (fun obj=>F.args_object_init_3 obj _ _) F.entry_zip_new (lA a b xs ys) ⟨ha,hb,?_⟩;have z1:(zt1 s.heap a).objs.size=s.heap.objs.size+1:=Heap.size_push ..;have z2:(zt2 s.heap a b).objs.size=s.heap.objs.size+2:=by rw[Heap.size_push,z1]
 have z3:(zt3 s.heap a b).objs.size=s.heap.objs.size+3:=by rw[Heap.size_push,z2]
 have z4:(zt4 s.heap a b).objs.size=s.heap.objs.size+4:=by rw[Heap.size_push,z3]
 have up:∀ {c:Addr} {o:Obj},(zt1 s.heap a).get? c=some o→(zt5 s.heap a b).get? c=some o:=fun e=>hpS _ (hpS _ (hpS _ (hpS _ e)));have g5:(zt5 s.heap a b).get? (zt4 s.heap a b).objs.size=some _:=Heap.get?_push_size _ rfl;have g4:(zt5 s.heap a b).get? (zt3 s.heap a b).objs.size=some _:=hpS _ (Heap.get?_push_size _ rfl);have g3:(zt5 s.heap a b).get? (zt2 s.heap a b).objs.size=some _:=hpS _ (hpS _ (Heap.get?_push_size _ rfl));have g2:(zt5 s.heap a b).get? (zt1 s.heap a).objs.size=some _:=hpS _ (hpS _ (hpS _ (Heap.get?_push_size _ rfl)));have g1:(zt5 s.heap a b).get? s.heap.objs.size=some _:=up (Heap.get?_push_size _ rfl);show _∧_;rw[z2,z3,z4] at g5;rw[z1,z2] at g3;rw[z3] at g4;rw[z1] at g2;rw[z4];exact⟨⟨_,g5,rfl⟩,h _ g5 g3 g4 ⟨_,g1,rfl,rfl⟩ ⟨_,g2,rfl,rfl⟩ fun c o e=>up (hpS _ e)⟩
def rA (K:Fg) (a b:Addr):It :=
  ⟨fun i H=>∃ xs ys x y,SqT K H a xs∧SqT K H b ys∧xs[i]?=some x∧ys[i]?=some y,fun i H v H'=>∃ t x y,v=.ref t∧H t=none∧H'=upd H t (.tup [x,y])∧(∀ xs,SqT K H a xs→xs[i]?=some x)∧∀ ys,SqT K H b ys→ys[i]?=some y,
    fun i H=>∃ xs ys,SqT K H a xs∧SqT K H b ys∧(xs.length≤i∨ys.length≤i)⟩
theorem nh {P:Program} {w:World} {K:Fg} {elts:List Expr} {k} {pos:Pos} (a b z TI TO i1 i2:Addr) (h0:z≠TI∧z≠TO∧z≠i1∧z≠i2∧TI≠TO∧TI≠i1∧TI≠i2∧TO≠i1∧TO≠i2∧i1≠i2) (hab:a≠TO∧b≠TO) :
 lQ P w K (.Tuple elts k pos) (rA K a b) [z,TI,TO,i1,i2] z (fun i h=>IsZip h z TI TO .none∧IsPair h TI (.ref i1) (.ref i2)∧(∃ u v,IsPair h TO u v)∧h.IsTupleIter i1 a i∧h.IsTupleIter i2 b i) where
 mem:=by simp
 obj:=fun i h st c hc=>by
  obtain⟨h1,h2,⟨u,v,h3⟩,⟨o4,h4,_,d4⟩,⟨o5,h5,_,d5⟩⟩:=st;simp only[List.mem_cons,nMN,or_false] at hc
  rcases hc with rfl | rfl | rfl | rfl | rfl
  · exact⟨_,h1,fun v z=>by cases z⟩
  · exact⟨_,h2,fun v z=>by cases z⟩
  · exact⟨_,h3,fun v z=>by cases z⟩
  · exact⟨_,h4,fun v z=>by rw[d4] at z;cases z⟩
  · exact⟨_,h5,fun v z=>by rw[d5] at z;cases z⟩
 keep:=fun i h h' st k=>by
  obtain⟨h1,h2,⟨u,v,h3⟩,⟨o4,h4,r4⟩,⟨o5,h5,r5⟩⟩:=st;exact⟨k z (by simp) _ h1,k TI (by simp) _ h2,⟨u,v,k TO (by simp) _ h3⟩,⟨o4,k i1 (by simp) _ h4,r4⟩,⟨o5,k i2 (by simp) _ h5,r5⟩⟩
 item:=by
  intro X hP hw hK hc i pins s σ H E I hf st hg;subst hP hw hK;obtain⟨xs,ys,x,y,hqx,hqy,hx,hy⟩:=hg;obtain⟨its,rv,p,hz⟩:=I.tuple hqx;obtain⟨its2,rv2,p2,hz2⟩:=I.tuple hqy;obtain⟨u,hu,ru⟩:=rv.get hx;obtain⟨v,hv,rv'⟩:=rv2.get hy;obtain⟨h1,h2,⟨u0,v0,h3⟩,h4,h5⟩:=st;obtain⟨n1,n2,n3,n4,n5,n6,n7,n8,n9,n10⟩:=h0;obtain⟨ol,hol,hcl,_⟩:=id p;obtain⟨ol2,hol2,hcl2,_⟩:=id p2;obtain⟨o4,g4,c4,d4⟩:=id h4;obtain⟨o5,g5,c5,d5⟩:=id h5;have D:ZAp z TI TO i1 i2 a b:=⟨⟨n1.symm,n2.symm,n3.symm,n4.symm,cI hol h1 (by rw[hcl];simp),cI hol2 h1 (by rw[hcl2];simp)⟩,⟨n5,n8.symm,n9.symm,hab.1,hab.2⟩,⟨n6,n7,n10⟩,
    ⟨cI hol g4 (by rw[hcl,c4];simp),cI hol g5 (by rw[hcl,c5];simp),cI hol2 g4 (by rw[hcl2,c4];simp),cI hol2 g5 (by rw[hcl2,c5];simp)⟩⟩
  refine lr D (eg i1 a D.l_.1 its.toArray) (eg i2 b D.l_.2.2.2 its2.toArray) h1 h2 h3 ⟨h4,p⟩ ⟨h5,p2⟩ (x:=u) (y:=v) (by simpa using hu) (by simpa using hv) fun h' e1 e2 e3 e4 e5 e7=>?_;refine⟨_,rfl,wpAny_letOwnedTupleGo_zip (s:={s with heap:=h'}) e1 fun h'' f1 sb=>?_⟩;have lz:z<s.heap.objs.size:=Heap.lt_size h1;have keep:∀ c o,c∉[z,TI,TO,i1,i2]→s.heap.get? c=some o→h''.get? c=some o:=fun c o hc q=>by
   simp only[List.mem_cons,nMN,or_false,not_or] at hc;exact (sb.2 c hc.1).trans (e7 c o hc.1 hc.2.2.1 hc.2.2.2.1 hc.2.2.2.2 q)
  have hT:h''.get? s.heap.objs.size=some {cls:=.type "tuple",data:=.seq #[u,v]}:=(sb.2 _ (Nat.ne_of_gt lz)).trans e5;have I2:Inv X pins σ (upd H s.heap.objs.size (.tup [x,y])) {s with heap:=h''}:=I.turnedNew (t':=s.toks) hf keep ⟨gl,[u,v],.cons ru (.cons rv' .nil),⟨_,hT,rfl,_,rfl⟩⟩;refine⟨.ref s.heap.objs.size,_,I2,rfl,⟨_,x,y,rfl,I.hok.fresh (Nat.le_refl _),rfl,fun q hq=>by rw[I.tuple_inj hq hqx];exact hx,fun q hq=>by rw[I.tuple_inj hq hqy];exact hy⟩,⟨f1,?_,⟨u,v,(sb.2 TO D.z_.2.1).trans e2⟩,?_,?_⟩,fun c hc=>?_⟩
  · exact (sb.2 TI D.z_.1).trans (e7 TI _ D.z_.1 D.o_.1 D.i_.1 D.i_.2.1 h2)
  · obtain⟨⟨o,q,r⟩,_⟩:=e3;exact⟨o,(sb.2 i1 D.z_.2.2.1).trans q,r⟩
  · obtain⟨⟨o,q,r⟩,_⟩:=e4;exact⟨o,(sb.2 i2 D.z_.2.2.2.1).trans q,r⟩
  · have hlt:c<s.heap.objs.size:=by
     simp only[List.mem_cons,nMN,or_false] at hc
     rcases hc with rfl | rfl | rfl | rfl | rfl
     · exact lz
     · exact Heap.lt_size h2
     · exact Heap.lt_size h3
     · exact Heap.lt_size g4
     · exact Heap.lt_size g5
    rw[aa (Nat.ne_of_lt hlt)];exact (hf c hc).1
 done:=by
  intro X hP hw hK hc i pins s σ H E I hf st hg;subst hP hw hK;obtain⟨xs,ys,hqx,hqy,hlen⟩:=hg;obtain⟨its,rv,p,hz⟩:=I.tuple hqx;obtain⟨its2,rv2,p2,hz2⟩:=I.tuple hqy;obtain⟨h1,h2,⟨u0,v0,h3⟩,h4,h5⟩:=st;obtain⟨n1,n2,n3,n4,n5,n6,n7,n8,n9,n10⟩:=h0;obtain⟨ol,hol,hcl,_⟩:=id p;obtain⟨ol2,hol2,hcl2,_⟩:=id p2;obtain⟨o4,g4,c4,d4⟩:=id h4;obtain⟨o5,g5,c5,d5⟩:=id h5;have D:ZAp z TI TO i1 i2 a b:=⟨⟨n1.symm,n2.symm,n3.symm,n4.symm,cI hol h1 (by rw[hcl];simp),cI hol2 h1 (by rw[hcl2];simp)⟩,⟨n5,n8.symm,n9.symm,hab.1,hab.2⟩,⟨n6,n7,n10⟩,
    ⟨cI hol g4 (by rw[hcl,c4];simp),cI hol g5 (by rw[hcl,c5];simp),cI hol2 g4 (by rw[hcl2,c4];simp),cI hol2 g5 (by rw[hcl2,c5];simp)⟩⟩
  have e1:=rv.length;have e2:=rv2.length;refine nL (I.ok.hd hc) D (eg i1 a D.l_.1 its.toArray) (eg i2 b D.l_.2.2.2 its2.toArray) h1 h2 h3 ⟨h4,p⟩ ⟨h5,p2⟩ (hlen.imp (fun q=>by simp;lia) fun q=>by simp;lia) fun h' kp=>⟨rfl,I.turnedAll (t':=s.toks) hf fun c o hc q=>?_⟩;simp only[List.mem_cons,nMN,or_false,not_or] at hc;exact kp c o hc.1 hc.2.2.1 hc.2.2.2.1 hc.2.2.2.2 q
 self:=fun _ _ _ _ _ st h=>wpAny_pyIter_zip st.1 h
def zN (K:Fg) (ta:TA):TI:=fun σ H R=>ta σ H fun vs H1=>∃ a b xs ys,vs=[.ref a,.ref b]∧SqT K H1 a xs∧SqT K H1 b ys∧R (rA K a b) H1
theorem gE {X:Cx} {elts:List Expr} {k} {tpos:Pos} {e1 e2:Expr} {ta:TA} {p pos:Pos} (hg:Gl X "zip") (hm:X.mg "zip"=none) (ha:PA X [e1,e2] ta) (hs:starEach [e1,e2] X.env=[(false,eval e1 X.env),(false,eval e2 X.env)]:=by rfl) (hs2:starEach [e2] X.env=[(false,eval e2 X.env)]:=by rfl) :
 PI X (.Tuple elts k tpos) (.Call (.Name "zip" p) [e1,e2] [] pos) (zN X.K ta):=by
 intro pins s σ H R I h;refine Call_ (dW I hg hm qO (PyProof.Rows.callWith_type1 (thn (ha pos pins s σ H _ I h) fun us s1 zy16=>?_) (by rw[hs,hs2]) (by rw[hs2];rfl)));obtain⟨vs,H1,I1,r1,q1⟩:=zy16;obtain⟨a,b,xs,ys,e,hqx,hqy,q⟩:=q1;subst e;obtain⟨u,v,rfl,ru,rv⟩:=r1.two;cases ru;cases rv;obtain⟨its,rv,p1,hz⟩:=I1.tuple hqx;obtain⟨its2,rv2,p2,hz2⟩:=I1.tuple hqy;have la:a<s1.heap.objs.size:=by obtain⟨o,e,_⟩:=id p1;exact Heap.lt_size e
 have lb:b<s1.heap.objs.size:=by obtain⟨o,e,_⟩:=id p2;exact Heap.lt_size e
 refine og p1 p2 fun h' f1 f2 f3 f4 f5 f7=>?_;refine wpAny_pyIter_zip f1 ?_;have I2:Inv X pins σ H1 {s1 with heap:=h'}:=I1.kept (t':=s1.toks) f7;generalize hn:s1.heap.objs.size=n at f1 f2 f3 f4 f5 la lb;refine⟨n+4,[n+4,n+2,n+3,n,n+1],_,rA X.K a b,H1,rfl,I2,nh a b (n+4) (n+2) (n+3) n (n+1) (by refine⟨?_,?_,?_,?_,?_,?_,?_,?_,?_,?_⟩ <;> (intro z;have z':(_:Nat)=_:=z;lia)) ⟨Nat.ne_of_lt (Nat.lt_add_right 3 la),Nat.ne_of_lt (Nat.lt_add_right 3 lb)⟩,⟨f1,f2,⟨_,_,f3⟩,f4,f5⟩,fun c hc=>?_,q⟩;have hc':s1.heap.objs.size≤c:=by
  rw[hn];simp only[List.mem_cons,nMN,or_false] at hc
  rcases hc with rfl | rfl | rfl | rfl | rfl
  · exact Nat.le_add_right _ _
  · exact Nat.le_add_right _ _
  · exact Nat.le_add_right _ _
  · exact Nat.le_refl _
  · exact Nat.le_add_right _ _
 exact I1.fpOk hc' (I1.hok.fresh hc')
theorem bA {X:Cx} {p pos:Pos} {e:Expr} {es:List Expr} {t:TA} (hm:X.mg "tuple"=none) (ha:PA X (e::es) t) (hg:Gl X "tuple":=by rfl)
 (he:starEach (e::es) X.env=(false,eval e X.env)::starEach es X.env:=by rfl) (hpl:(backTo pos (starEach es X.env)).any (·.1)=false:=by rfl) :
 PE X (.Call (.Name "tuple" p) (e::es) [] pos) (tCB (pS X.K) t):=ee iC hg hm cm ha (he:=he) (hpl:=hpl)
theorem cF (xs:List V) (k:Nat):eT xs (some ((k:Nat):Int)) none=xs.drop k:=by
 unfold eT;rw[HT.pq,HT.jk];by_cases h:k≤xs.length
 · rw[Nat.min_eq_left h,List.take_of_length_le (by rw[List.length_drop];exact Nat.le_refl _)]
 · rw[Nat.min_eq_right (by lia),List.drop_of_length_le (Nat.le_refl _),List.drop_of_length_le (by lia)];exact List.take_nil
theorem aA.zipT {K:Fg} {a b:Addr} {xs ys:List V} {g:TG} {tb:TS} {D:dY} {σ:St} {H:Hp} (hlen:xs.length=ys.length) (Pv:Nat→St→Hp→Prop) (h0:Pv 0 σ H) (hl:∀ i σ H,i≤xs.length→Pv i σ H→SqT K H a xs∧SqT K H b ys)
 (hs:∀ i x y σ H t,xs[i]?=some x→ys[i]?=some y→Pv i σ H→H t=none→g (.ref t) σ (upd H t (.tup [x,y])) fun σ2 H2=>tb {D with nx:=Pv (i+1),ct:=Pv (i+1),bk:=D.nx} σ2 H2) (hd:∀ σ H,Pv xs.length σ H→D.nx σ H):aA (rA K a b) g tb D σ H:=by
 refine⟨fun i m σ H=>i≤xs.length∧m=xs.length-i∧Pv i σ H,⟨_,Nat.zero_le _,rfl,h0⟩,fun i m σ H z=>?_⟩;obtain⟨hi,hm,hp⟩:=z;obtain⟨l1,l2⟩:=hl i σ H hi hp;by_cases hlt:i<xs.length
 · have hlt2:i<ys.length:=by lia
   refine .inr ⟨⟨xs,ys,xs[i],ys[i],l1,l2,by simp[hlt],by simp[hlt2]⟩,fun σ' H'=>Pv (i+1) σ' H',fun σ' H' q=>⟨xs.length-(i+1),by rw[hm];exact Nat.sub_succ_lt_self _ _ hlt,hlt,rfl,q⟩,?_⟩;rintro v H' ⟨t,x,y,rfl,ht,rfl,hx,hy⟩;exact hs i x y σ H t (hx xs l1) (hy ys l2) hp ht
 · have:i=xs.length:=by lia
   subst this;exact .inl ⟨⟨xs,ys,l1,l2,.inl (Nat.le_refl _)⟩,hd σ H hp⟩
theorem pK {c A B:Prop} [Decidable c] (h:¬ c) (b:B):if c then A else B:=by rw[if_neg h];exact b
theorem pL {c A B:Prop} [Decidable c] (h:c) (a:A):if c then A else B:=by rw[if_pos h];exact a
theorem cV.units65 {k:Nat} {A:Around} (r:cV k A):A.units+65<cLine:=by have:=r.un;lia
theorem aA.zipTN {K:Fg} {a b:Addr} {xs ys:List V} {g:TG} {tb:TS} {d:St→Hp→Prop} {r:VK} {k c:St→Hp→Prop} {σ:St} {H:Hp} (hlen:xs.length=ys.length) (Pv:Nat→St→Hp→Prop) (h0:Pv 0 σ H) (hl:∀ i σ H,i≤xs.length→Pv i σ H→SqT K H a xs∧SqT K H b ys)
 (hs:∀ i x y σ H t (N B:St→Hp→Prop),(∀ σ' H',Pv (i+1) σ' H'→N σ' H')→xs[i]?=some x→ys[i]?=some y→Pv i σ H→H t=none→g (.ref t) σ (upd H t (.tup [x,y])) fun σ2 H2=>tb ⟨N,r,B,N⟩ σ2 H2) (hd:∀ σ H,Pv xs.length σ H→d σ H):aA (rA K a b) g tb ⟨d,r,k,c⟩ σ H :=
 aA.zipT hlen Pv h0 hl (fun i x y σ H t h1 h2 h3 h4=>hs i x y σ H t _ _ (fun _ _ z=>z) h1 h2 h3 h4) hd
end L2
namespace HT
open PySem PySem.Spec PyProof.Rows
section
variable {prog:Program} {w:World} {A:Around} {E:VSP} {s:Shared}
theorem eu {t sl:Addr} {aq:Array Value} {vl vu:Value} {lo hi:Option Int} {Q:VSP} (ht:IsTup s.heap t aq) (hs:s.heap.IsSliceOf sl vl vu .none) (pl:IsPart vl lo) (pu:IsPart vu hi)
 (hw:sIx aq.size 0 lo=0∧sIx aq.size aq.size hi=aq.size) (h:Q (.ref t) s):wpAny (model prog w) A (getItem (.ref t) (.ref sl)) Q E s:=by
 obtain⟨os,hos,hcs,hds⟩:=id hs;have hTs:s.TypeIs (.ref sl) "slice":=⟨os,hos,hcs⟩;unfold getItem
 try with_reducible refine wpAny_holding ?_
 first | refine wB (wP ?_) | skip
 refine wB (wpAny_sequenceKey ht.typeIs (by decide) ?_);refine wB (wpAny_callSpecial?_slot (name:=Str.ofString "__getitem__") ht.typeIs PyProof.Rows.slot_tuple_getitem
   (wpAny_call_entry PyProof.Rows.slot_tuple_getitem ht.typeIs entry_tuple_getitem ?_ (args_tuple_getitem _ _)))
 show wpAny _ _ (Builtin.Tuple.tupleItemsOf (.ref t)>>=_) _ _ s;refine wB (tupleItemsOf_ ht ?_);refine wB (wpAny_typeOf hTs ?_);rw[if_pos (by decide)];refine wB (dg hs pl pu ?_);have hyes:((((sIx aq.size 0 lo:Nat):Int)==0&&(1:Int)==1&&(sIx aq.size aq.size hi-sIx aq.size 0 lo)==aq.size)=true):=by
  rw[hw.1,hw.2];simp
 show wpAny _ _ (if (((sIx aq.size 0 lo:Nat):Int)==0&&(1:Int)==1&&(sIx aq.size aq.size hi-sIx aq.size 0 lo)==aq.size)=true then _ else _) _ _ s;rw[if_pos hyes];unfold Builtin.Tuple.tupleIsExact;refine wB (wB (wpAny_typeOf ht.typeIs (wP ?_)));rw[if_pos (by decide)];exact wB (wpAny_rule (wP ⟨_,rfl,wP h⟩))
end
end HT
namespace L2
open PySem PySem.Spec PyProof.Rows
section
variable {X:Cx}
def yC (K:Fg):V→Option Int→Option Int→Hp→VK→Prop:=fun x lo hi H Q=>∃ a xs,x=.ref a∧SqT K H a xs ∧
  (eT xs lo hi=xs→Q (.ref a) H)∧∀ p,H p=none→Q (.ref p) (upd H p (.tup (eT xs lo hi)))
theorem sf:SlR X (yC X.K):=by
 intro pins s σ H x v vl vu lo hi sl Q I rx hs pl pu h;obtain⟨a,xs,rfl,hx,q1,q2⟩:=h;by_cases hw:HT.sIx xs.length 0 lo=0∧HT.sIx xs.length xs.length hi=xs.length
 · cases rx;obtain⟨its,r,ht,hz⟩:=I.tuple hx;have hlen:its.toArray.size=xs.length:=by rw[List.size_toArray];exact r.length.symm
   refine⟨"tuple",_,PyProof.Rows.slot_tuple_getitem.lookup,ht.typeIs,?_⟩;refine HT.eu ht hs pl pu (by rw[hlen];exact hw) ⟨.ref a,H,I,rfl,q1 ?_⟩;unfold eT;rw[hw.1,hw.2];simp
 · exact eO pins s σ H _ v vl vu lo hi sl Q I rx hs pl pu ⟨a,xs,rfl,hx,hw,q2⟩
end
end L2
namespace P10
open PySem L2
def tbl:List (Str×List Str):=[("number",["number"]),("name",["meant"]),("let",["bound","one","one"]),("var",["bound","one","one"]),("set",["meant","one"]),("do",["many"]),("if",["one","one","one"]),("while",["one","one"]),("each",["bound","one","one"]),("say",["one"]),("fault",["word"]),("op",["op","many"]),("new",["place","many"]),("get",["place","place","one"]),("fun",["bounds","one"]),("apply",["one","many"]),("call",["place","many"])]
def aq:PyData→PDs
  | .tuple l=>l
  | _=>[]
def b8 (s:Str) (d:PyData):PDs:=if s="one" then [d] else if s="many" then aq d else []
def aE (sl:List Str) (ps:PDs):PDs:=(List.zipWith b8 sl ps).flatten
def dP (s:Str) (p:PyData) (ks:PDs) (k:Nat):PyData:=if s="one" then ks[k]?.getD p else if s="many" then .tuple ((ks.drop k).take (aq p).length) else p
def cv (ks:PDs):List Str→PDs→Nat→PDs
  | s::sl,p::ps,k=>dP s p ks k::cv ks sl ps (k+(b8 s p).length)
  | _,_,_=>[]
def Shp (s:Str) (d:PyData):Prop:=(s="many"→∃ l,d=.tuple l)∧(s∈(["number","meant","bound","place"]:List Str)→∃ i,d=.int i)∧(s∈(["op","word"]:List Str)→∃ x,d=.str x)∧(s="bounds"→∃ is:List Int,d=.tuple (is.map .int)∧is.length≤3)
structure Nd (d:PyData) (h:Str) (sl:List Str) (ps:PDs):Prop where
  eq:d=.tuple (.str h::ps)
  mem:(h,sl)∈tbl
  shp:Paired Shp sl ps
  few:(aE sl ps).length≤8
theorem eS {sl:List Str} {ps:PDs} {i:Nat} {s:Str} {p:PyData} (h1:sl[i]?=some s) (h2:ps[i]?=some p):aE (sl.take (i+1)) (ps.take (i+1))=aE (sl.take i) (ps.take i)++b8 s p:=by
 unfold aE;have hi:i<sl.length:=(gES.mp h1).1;have hj:i<ps.length:=(gES.mp h2).1;rw[tAO,tAO,h1,h2];show (List.zipWith b8 (sl.take i++[s]) (ps.take i++[p])).flatten=_;rw[List.zipWith_append (by rw[lTk,lTk];lia),List.flatten_append];simp
theorem ib {sl:List Str} {ps:PDs} (i:Nat):(aE (sl.take i) (ps.take i)).length≤(aE sl ps).length:=by
 unfold aE;have e:List.zipWith b8 (sl.take i) (ps.take i)=(List.zipWith b8 sl ps).take i:=by rw[List.take_zipWith]
 rw[e];have:=congrArg (fun l=>(List.flatten l).length) (List.take_append_drop i (List.zipWith b8 sl ps));simp only[List.flatten_append,lAp] at this;lia
theorem iI (ks:PDs):∀ {sl:List Str} {ps:PDs} (k:Nat),sl.length=ps.length→(cv ks sl ps k).length=ps.length
 | [],[],_,_=>rfl
 | s::sl,p::ps,k,h=>by
  show (cv ks sl ps _).length+1=ps.length+1;rw[iI ks _ (Nat.succ.inj h)]
theorem jS (ks:PDs):∀ {sl:List Str} {ps:PDs} (k i:Nat) {s:Str} {p:PyData},sl[i]?=some s→ps[i]?=some p→(cv ks sl ps k)[i]?=some (dP s p ks (k+(aE (sl.take i) (ps.take i)).length))
 | s'::sl,p'::ps,k,0,s,p,h1,h2=>by cases h1;cases h2;rfl
 | s'::sl,p'::ps,k,i+1,s,p,h1,h2=>by
  show (cv ks sl ps (k+(b8 s' p').length))[i]?=_;rw[jS ks (sl:=sl) (ps:=ps) (k+(b8 s' p').length) i h1 h2];show some (dP s p ks (k+(b8 s' p').length+(aE (sl.take i) (ps.take i)).length))=some (dP s p ks (k+(b8 s' p'++aE (sl.take i) (ps.take i)).length));rw[lAp,Nat.add_assoc]
 | [],_,_,_,_,_,h,_=>by simp at h
 | _::_,[],_,_,_,_,_,h=>by simp at h
theorem fi {k:Str} {sl:List Str} (h:(k,sl)∈tbl):sl.length≤3:=by
 have:∀ p∈tbl,p.2.length≤3:=by decide +kernel
 exact this _ h
end P10
namespace K11
open PySem L2 P10
structure Blt (mg:SOV):Prop where
  len:mg "len"=none
  range:mg "range"=none
  isinstance:mg "isinstance"=none
  tuple:mg "tuple"=none
  str:mg "str"=none
  zip:mg "zip"=none
  list:mg "list"=none
  sorted:mg "sorted"=none
structure Glb (P:Program) (w:World) (K:Fg) (mg:SOV):Prop where
  slots:∃ a kvs,mg "SLOTS"=some (.ref a)∧mU P w K a kvs∧∀ k sl,(k,sl)∈tbl→∃ r,bi kvs (.inr k)=some (.ref r)∧∀ H,SqT K H r (sl.map V.str)
section
variable {CX:CXT} {P:Program} {w:World} {K:Fg} {mg:SOV} {base:Heap} {N:List Str} {q:Str} {sc:Scope} {f:Addr} {cd:Value} {A:Around} {outer:List Env} {s:Shared} {H:Hp} {E:XK}
theorem bC:(cE CX P w K mg base N q sc f cd A outer s H E).nox.K=K:=rfl
theorem bH:(cE CX P w K mg base N q sc f cd A outer s H E).nox.prog=P:=rfl
theorem bG:(cE CX P w K mg base N q sc f cd A outer s H E).nox.w=w:=rfl
end
theorem dz {K:Fg} {H:Hp} {a b:Addr} {xs ys:PDs} {Q:VK} (hA:TD K H (.ref a) (.tuple xs)) (hB:TD K H (.ref b) (.tuple ys)) (hz:xs.length+ys.length≤100000)
 (q:∀ p H',aj H H'→TD K H' (.ref p) (.tuple (xs++ys))→Q (.ref p) H'):kq K (.ref a) (.ref b) H Q:=by
 obtain⟨a',us,e,ha,hu⟩:=hA.tup_of;cases e;obtain⟨b',vs,e,hb,hv⟩:=hB.tup_of;cases e;have hz0:(100000:Nat)<sizeLine:=by decide
 have l1:=hu.length;have l2:=hv.length;refine⟨a,b,us,vs,rfl,rfl,ha,hb,by lia,fun e=>?_,fun _ e=>?_,fun _ _ p hp=>?_⟩
 · have:xs=[]:=by rw[e] at l1;exact List.eq_nil_of_length_eq_zero l1.symm
   rw[this,List.nil_append] at q;exact q b H (aj.refl H) hB
 · have:ys=[]:=by rw[e] at l2;exact List.eq_nil_of_length_eq_zero l2.symm
   rw[this,List.append_nil] at q;exact q a H (aj.refl H) hA
 · have k:=smu (o:=HO.tup (us++vs)) hp;exact q p _ k (.tup (SqT.of pG) ((hu.same k).app (hv.same k)))
theorem gC {sl:List Str} {ps:PDs} (h:Paired Shp sl ps) {i:Nat} {p:PyData} (hp:ps[i]?=some p):∃ s,sl[i]?=some s∧Shp s p:=by
 induction h generalizing i with
 | nil=>simp at hp
 | cons z t ih =>
  cases i with
  | zero=>cases hp;exact⟨_,rfl,z⟩
  | succ i=>exact ih hp
section
variable {P:Program} {w:World} {K:Fg} {mg:SOV} {base:Heap}
abbrev sCh:Stmt:=top 2
inductive uK (K:Fg) (vs:List V) (H:Hp) (Q:VK):Prop
  | mk (v:V) (d:PyData) (h:Str) (sl:List Str) (ps:PDs) (g0_:vs=[v]) (g1_:TD K H v d) (g2_:Nd d h sl ps) (g3_:∀ v' H',aj H H'→TD K H' v' (.tuple (aE sl ps))→Q v' H'):uK K vs H Q
def rZ (K:Fg):Sp:=fun vs H Q _=>uK K vs H Q
theorem yq:ax ["e","children","slot","part"] ["e"] (a9 sCh):=fsM
theorem zA (D:Def K mg "children_of" sCh) (T:Blt mg) (C:Glb P w K mg):Fn P w K mg base "children_of" 1 ["e"] (rZ K):=by
 refine D.fn yq (fun vs H Q E h=>?_) (fun _ _ _ _ _ _ us hl=>by obtain⟨a,rfl⟩:=eo hl;rfl) (fun f cdv A outer s' H vs Q E hr h=>?_)
 · obtain⟨v,d,h',sl,ps,rfl,_⟩:=h;rfl
 · obtain⟨v,d,hd,sl,ps,rfl,td,nd',q⟩:=h;obtain⟨rfl,hm,hshp,hfew⟩:=nd';obtain⟨a,xs,rfl,ha,hx⟩:=td.tup_of;obtain⟨aS,kvs,gS,hS,hkv⟩:=C.slots;obtain⟨r,hr1,hr2⟩:=hkv hd sl hm;have nd:=yq.nd;have tl:=fi hm;have hfl:=Paired.length hshp;obtain⟨x0,xr,rfl,hx0,hxr⟩:∃ x0 xr,xs=x0::xr∧TD K H x0 (.str hd)∧TDs K H xr ps:=by
    cases hx with
    | cons p q=>exact⟨_,_,rfl,p,q⟩
   obtain rfl:=hx0.str_of;have hxl:=hxr.length;have hz0:(1000000:Nat)<sizeLine:=by decide
   refine⟨_,(pE (pN (i:=1) nd rfl (Or.inl rfl) (az pC))
 (pE (bx PassesOwn.never rfl (gE rfl T.zip (pA (jo (jp (v:=.ref aS) rfl gS rfl) (am aB (pv 0) pH (fun _ _=>rfl)) (fun _ _=>rfl)) (pA (c7 eO (pv 0) (bE pH) cL) pC))) (eP rfl (bg (ao (i:=2) nd rfl (Or.inl rfl)) (bg (ao (i:=3) nd rfl (Or.inl rfl)) dl)))
 (pI (aN (pO aT (pv 2) pD (pP _)) (pI (jm (i:=1) nd rfl (Or.inl rfl) (az (pA (pv 3) pC)) (mH))) (pI (aN (pO aT (pv 2) pD (pP _)) (pI (jm (i:=1) nd rfl (Or.inl rfl) (bA T.tuple (pA (pv 3) pC)) (mH))) aF)))))
 (pI (au (pv 1))))),?_⟩
   dsimp only[bC,bH,bG];refine⟨f9,fun c hc=>?_⟩;have k1:=smu (o:=HO.tup []) hc;have dc:TD K (upd H c (.tup [])) (.ref c) (.tuple []):=.tup (SqT.of pG) .nil;generalize upd H c (.tup [])=H1 at k1 dc ⊢;refine⟨_,rfl,a,_,0,.str hd,rfl,rfl,k1.seqT ha,pJ (j:=0) rfl,aS,kvs,.inr hd,.ref r,rfl,hS,rfl,hr1,_,rfl,_,rfl,a,_,rfl,k1.seqT ha,?_,fun p2 hp2=>?_⟩
   · unfold HT.sIx;simp
   · rw[show (some (1:Int))=some (((1:Nat):Nat):Int) from rfl,cF];have k2:=smu (o:=HO.tup ((V.str hd::xr).drop 1)) hp2;have hp2':(upd H1 p2 (.tup ((V.str hd::xr).drop 1))) p2=some (.tup xr):=pG;generalize upd H1 p2 (.tup ((V.str hd::xr).drop 1))=H2 at k2 hp2' ⊢;refine⟨r,p2,_,_,rfl,hr2 _,SqT.of hp2',?_⟩;show aA _ _ _ _ _ _;refine aA.zipTN (xs:=sl.map V.str) (ys:=xr) (by rw[lMp];lia) (fun i σ Hi=>aj H2 Hi∧∃ b x2 x3,σ=[some (.ref a),some (.ref b),x2,x3]∧TD K Hi (.ref b) (.tuple (aE (sl.take i) (ps.take i))))
      ⟨aj.refl _,c,_,_,rfl,dc.same k2⟩ ?_ ?_ ?_
     · rintro i σ Hi _ ⟨s2,_⟩;exact⟨hr2 _,SqT.of (s2 _ _ hp2')⟩
     · rintro i x y σ Hi t N_ B_ hN_ hxi hyi ⟨s2,b,x2,x3,rfl,db⟩ ht;rw[gEM] at hxi;obtain⟨slot,hsi,rfl⟩:=oMS.mp hxi;obtain⟨d,hdi,htd⟩:=hxr.get hyi;obtain⟨s0,hs0,hsh⟩:=gC hshp hdi;rw[hsi] at hs0;cases hs0;have k3:=smu (o:=HO.tup [V.str slot,y]) ht;have dy:=htd.same (k1.trans (k2.trans (s2.trans k3)));have db3:=db.same k3;have st:=eS hsi hdi;have hle:=ib (sl:=sl) (ps:=ps) (i+1);refine⟨t,_,rfl,SqT.of pG,rfl,_,_,rfl,_,_,rfl,rfl,?_⟩;have s3:=s2.trans k3;generalize upd Hi t (.tup [V.str slot,y])=H3 at k3 dy db3 s3 ⊢;refine⟨_,rfl,rfl,_,rfl,?_⟩;by_cases h1:slot="one"
       · subst h1;refine pL (by simp) ?_;refine⟨_,rfl,_,rfl,eC,fun u hu=>?_⟩;have k4:=smu (o:=HO.tup [y]) hu;rw[st] at hle;refine dz (db3.same k4) (ys:=[d]) (.tup (SqT.of pG) (.cons (dy.same k4) .nil)) (by simp[b8] at hle ⊢;lia) fun p H' s' dp=>?_;exact hN_ _ _ ⟨s3.trans (k4.trans s'),p,_,_,rfl,by rw[st];exact dp⟩
       · refine pK (by simpa using h1) ?_;refine⟨_,rfl,rfl,_,rfl,?_⟩;by_cases h2:slot="many"
         · subst h2;obtain⟨l,rfl⟩:=hsh.1 rfl;refine pL (by simp) ?_;obtain⟨ay,xy,rfl,hay,hxy⟩:=dy.tup_of;refine⟨_,rfl,_,rfl,ay,xy,rfl,.inr ⟨hay,?_⟩⟩;rw[st] at hle;refine dz db3 (ys:=l) dy (by rw[lAp] at hle;show _+l.length≤_;have e:(b8 "many" (PyData.tuple l))=l:=rfl;rw[e] at hle;lia) fun p H' s' dp=>?_;exact hN_ _ _ ⟨s3.trans s',p,_,_,rfl,by rw[st];exact dp⟩
         · refine pK (by simpa using h2) ?_;have e:b8 slot d=[]:=by unfold b8;rw[if_neg h1,if_neg h2]
           exact hN_ _ _ ⟨s3,b,_,_,rfl,by rw[st,e,List.append_nil];exact db3⟩
     · rintro σ Hi ⟨s2,b,x2,x3,rfl,db⟩;rw[lMp,List.take_length,hfl,List.take_length] at db;exact⟨_,rfl,q _ _ (k1.trans (k2.trans s2)) db⟩
end
def SV (K:Fg) (H:Hp) (c:Addr) (ks:PDs):Prop:=∃ xs,(SqL K H c xs∨SqT K H c xs)∧TDs K H xs ks
theorem TDs.take {K:Fg} {H:Hp} {xs:List V} {ds:PDs} (h:TDs K H xs ds):∀ n,TDs K H (xs.take n) (ds.take n):=by
 intro n
 induction n generalizing xs ds with
 | zero=>rw[List.take_zero,List.take_zero];exact .nil
 | succ n ih =>
  cases h with
  | nil=>exact .nil
  | cons a b=>exact .cons a (ih b)
theorem TDs.at {K:Fg} {H:Hp} {xs:List V} {ds:PDs} (h:TDs K H xs ds) {i:Nat} {d:PyData} (hd:ds[i]?=some d):∃ x,xs[i]?=some x∧TD K H x d:=by
 have hi:i<ds.length:=(gES.mp hd).1;have hx:xs[i]?=some (xs[i]'(by rw[h.length];exact hi)):=gEE _;obtain⟨d',h1,h2⟩:=h.get hx;rw[hd] at h1;cases h1;exact⟨_,hx,h2⟩
theorem jF (xs:List V) (k n:Nat) (h:k+n≤xs.length):eT xs (some ((k:Nat):Int)) (some (((k:Nat):Int)+((n:Nat):Int)))=(xs.drop k).take n:=by
 unfold eT;rw[show ((k:Nat):Int)+((n:Nat):Int)=(((k+n:Nat):Nat):Int) by lia,HT.jk,HT.jk];have e1:min k xs.length=k:=Nat.min_eq_left (by lia);have e2:min (k+n) xs.length=k+n:=Nat.min_eq_left h;rw[e1]
 first | rw[e2] | skip
 rw[show k+n-k=n by lia]
section
variable {P:Program} {w:World} {K:Fg} {mg:SOV} {base:Heap}
abbrev sWc:Stmt:=top 3
inductive uf (K:Fg) (vs:List V) (H:Hp) (Q:VK):Prop
  | mk (v:V) (c:Addr) (d:PyData) (h:Str) (sl:List Str) (ps ks:PDs) (g0_:vs=[v,.ref c]) (g1_:TD K H v d) (g2_:Nd d h sl ps) (g3_:SV K H c ks) (g4_:ks.length=(aE sl ps).length) (g5_:∀ v' H',aj H H'→TD K H' v' (.tuple (.str h::cv ks sl ps 0))→Q v' H'):uf K vs H Q
def xu (K:Fg):Sp:=fun vs H Q _=>uf K vs H Q
theorem xU:ax ["e","children","told","at","slot","part"] ["e","children"] (a9 sWc):=fsM
theorem yP (D:Def K mg "with_children" sWc) (T:Blt mg) (C:Glb P w K mg):Fn P w K mg base "with_children" 1 ["e","children"] (xu K):=by
 refine D.fn xU (fun vs H Q E h=>?_) (fun _ _ _ _ _ _ us hl=>by obtain⟨a,b,rfl⟩:=fW hl;rfl) (fun f cdv A outer s' H vs Q E hr h=>?_)
 · obtain⟨v,c,d,h',sl,ps,ks,rfl,_⟩:=h;rfl
 · obtain⟨v,c,d,hd,sl,ps,ks,rfl,td,nd',⟨xc,hxc,hks⟩,hkl,q⟩:=h;obtain⟨rfl,hm,hshp,hfew⟩:=nd';obtain⟨a,xs,rfl,ha,hx⟩:=td.tup_of;obtain⟨aS,kvs,gS,hS,hkv⟩:=C.slots;obtain⟨r,hr1,hr2⟩:=hkv hd sl hm;have nd:=xU.nd;have tl:=fi hm;have hfl:=Paired.length hshp;obtain⟨x0,xr,rfl,hx0,hxr⟩:∃ x0 xr,xs=x0::xr∧TD K H x0 (.str hd)∧TDs K H xr ps:=by
    cases hx with
    | cons p q=>exact⟨_,_,rfl,p,q⟩
   obtain rfl:=hx0.str_of;have hxl:=hxr.length;have hcl:=hks.length;have hz0:(1000000:Nat)<sizeLine:=by decide
   refine⟨_,(pE (pN (i:=2) nd rfl (Or.inl rfl) (ag (pA (am aB (pv 0) pH (fun _ _=>rfl)) pC)))
 (pE (pN (i:=3) nd rfl (Or.inl rfl) pH)
 (pE (bx PassesOwn.never rfl (gE rfl T.zip (pA (jo (jp (v:=.ref aS) rfl gS rfl) (am aB (pv 0) pH (fun _ _=>rfl)) (fun _ _=>rfl)) (pA (c7 eO (pv 0) (bE pH) cL) pC))) (eP rfl (bg (ao (i:=4) nd rfl (Or.inl rfl)) (bg (ao (i:=5) nd rfl (Or.inl rfl)) dl)))
 (pI (aN (pO aT (pv 4) pD (pP _)) (pE (ak (aV (pv 2) (pA (am vZ (pv 1) (pv 3) (fun _ _=>rfl)) pC)))
 (pI (jm (i:=3) nd rfl (Or.inl rfl) pH (qw)))) (pI (aN (pO aT (pv 4) pD (pP _)) (pE (ak (aV (pv 2) (pA (bA T.tuple (pA (c7 (gB.or sf) (pv 1) (bE (pv 3)) (bE (aC bY (pv 3) (be T.len (pA (pv 5) pC))))) pC)) pC)))
 (pI (jm (i:=3) nd rfl (Or.inl rfl) (be T.len (pA (pv 5) pC)) (qw)))) (pI (ak (aV (pv 2) (pA (pv 5) pC)))))))))
 (pI (au (bA T.tuple (pA (pv 2) pC))))))),?_⟩
   dsimp only[bC,bH,bG];refine⟨_,rfl,a,_,0,.str hd,rfl,rfl,ha,pJ (j:=0) rfl,eC,fun W hW=>?_⟩;have k1:=smu (o:=HO.lst [V.str hd]) hW;have hW1:(upd H W (.lst [V.str hd])) W=some (.lst [V.str hd]):=pG;generalize upd H W (.lst [V.str hd])=H1 at k1 hW1 ⊢;refine⟨_,rfl,a,_,0,.str hd,rfl,rfl,k1.seqT ha,pJ (j:=0) rfl,aS,kvs,.inr hd,.ref r,rfl,hS,rfl,hr1,_,rfl,_,rfl,a,_,rfl,k1.seqT ha,?_,fun p2 hp2=>?_⟩
   · unfold HT.sIx;simp
   · rw[show (some (1:Int))=some (((1:Nat):Nat):Int) from rfl,cF];have k2:=smu (o:=HO.tup ((V.str hd::xr).drop 1)) hp2;have hp2':(upd H1 p2 (.tup ((V.str hd::xr).drop 1))) p2=some (.tup xr):=pG;have hW2:=k2 _ _ hW1;generalize upd H1 p2 (.tup ((V.str hd::xr).drop 1))=H2 at k2 hp2' hW2 ⊢;refine⟨r,p2,_,_,rfl,hr2 _,SqT.of hp2',?_⟩;show aA _ _ _ _ _ _;have wl:=iI ks 0 hfl;refine aA.zipTN (xs:=sl.map V.str) (ys:=xr) (by rw[lMp];lia) (fun i σ Hi=>aj H Hi∧Hi p2=some (.tup xr)∧(∃ ys,Hi W=some (.lst ys)∧TDs K Hi ys (.str hd::(cv ks sl ps 0).take i))∧∃ x4 x5,σ=[some (.ref a),some (.ref c),some (.ref W),some (.int (((aE (sl.take i) (ps.take i)).length:Nat):Int)),x4,x5])
      ⟨k1.trans k2,hp2',⟨_,hW2,.cons (.str _) .nil⟩,_,_,rfl⟩ ?_ ?_ ?_
     · rintro i σ Hi _ ⟨_,h2,_⟩;exact⟨hr2 _,SqT.of h2⟩
     · rintro i x y σ Hi t N_ B_ hN_ hxi hyi ⟨s2,hp,⟨ys,hWi,hys⟩,x4,x5,rfl⟩ ht;rw[gEM] at hxi;obtain⟨slot,hsi,rfl⟩:=oMS.mp hxi;obtain⟨d,hdi,htd⟩:=hxr.get hyi;obtain⟨s0,hs0,hsh⟩:=gC hshp hdi;rw[hsi] at hs0;cases hs0;have k3:=smu (o:=HO.tup [V.str slot,y]) ht;have s3:=s2.trans k3;have dy:=htd.same s3;have hW3:=k3 _ _ hWi;have hp3:=k3 _ _ hp;have hys3:=hys.same k3;have hks3:=hks.same s3;have hxc3:SqL K (upd Hi t (.tup [V.str slot,y])) c xc∨SqT K (upd Hi t (.tup [V.str slot,y])) c xc:=hxc.imp (fun z=>s3.seq z) (fun z=>s3.seqT z);have pW:p2≠W:=fun e=>by rw[e,hWi] at hp;cases hp
       have st:=eS hsi hdi;have hle:=ib (sl:=sl) (ps:=ps) (i+1);have wat:=jS ks 0 i hsi hdi;rw[Nat.zero_add] at wat;have hyl:=hys.length;have hwi:(cv ks sl ps 0).take (i+1)=(cv ks sl ps 0).take i++[dP slot d ks (aE (sl.take i) (ps.take i)).length]:=by rw[tAO,wat];rfl
       refine⟨t,_,rfl,SqT.of pG,rfl,_,_,rfl,_,_,rfl,rfl,?_⟩;generalize upd Hi t (.tup [V.str slot,y])=H3 at k3 s3 dy hW3 hp3 hys3 hks3 hxc3 ⊢;have hlen:ys.length<sizeLine:=by
        rw[List.length_cons,lTk] at hyl;lia
       have fin:∀ (H4:Hp) (u:V),aj H3 H4→TD K H4 u (dP slot d ks (aE (sl.take i) (ps.take i)).length)→(∃ l xs' y',(V.ref W:V)=.ref l∧[u]=[y']∧H4 l=some (.lst xs')∧xs'.length<sizeLine∧l=W∧xs'=ys∧y'=u)∧aj H (upd H4 W (.lst (ys++[u])))∧(upd H4 W (.lst (ys++[u]))) p2=some (.tup xr)∧∃ zs,(upd H4 W (.lst (ys++[u]))) W=some (.lst zs)∧TDs K (upd H4 W (.lst (ys++[u]))) zs (.str hd::(cv ks sl ps 0).take (i+1)):=by
        intro H4 u s4 du;have hW4:=s4 _ _ hW3;refine⟨⟨W,ys,u,rfl,rfl,hW4,hlen,rfl,rfl,rfl⟩,aD (s3.trans s4) hW,by rw[aa pW];exact s4 _ _ hp3,_,pG,?_⟩;rw[hwi,← List.cons_append];exact ((hys3.same s4).snoc du).tk (aZ (.inr ⟨_,hW4⟩))
       refine⟨_,rfl,rfl,_,rfl,?_⟩;by_cases h1:slot="one"
       · subst h1;refine pL (by simp) ?_;have hlt:(aE (sl.take i) (ps.take i)).length<ks.length:=by
          rw[st,lAp] at hle;have e:(b8 "one" d).length=1:=rfl;lia
         have hk:ks[(aE (sl.take i) (ps.take i)).length]?=some ks[(aE (sl.take i) (ps.take i)).length]:=gEE hlt;obtain⟨u,hu,du⟩:=TDs.at hks3 hk;have en:dP "one" d ks (aE (sl.take i) (ps.take i)).length=ks[(aE (sl.take i) (ps.take i)).length]:=by unfold dP;rw[if_pos rfl,hk];rfl
         obtain⟨_,f2,f3,zs,f4,f5⟩:=fin H3 u (aj.refl _) (by rw[en];exact du);refine⟨_,rfl,.inl ⟨rfl,_,SqL.of hW3⟩,_,rfl,_,rfl,?_⟩;have go:∀ {Q2:VK},Q2 u H3→rIx K (.ref c) (.int (((aE (sl.take i) (ps.take i)).length:Nat):Int)) H3 Q2:=fun {Q2} q2=>by
          rcases hxc3 with z | z
          · exact .inl ⟨c,xc,_,u,rfl,rfl,z,pJ hu,q2⟩
          · exact .inr (.inl ⟨c,xc,_,u,rfl,rfl,z,pJ hu,q2⟩)
         refine go ?_;refine⟨W,ys,u,rfl,rfl,hW3,hlen,?_⟩;refine⟨_,rfl,_,_,rfl,rfl,?_⟩;refine hN_ _ _ ⟨f2,f3,⟨zs,f4,f5⟩,some (.str "one"),some y,?_⟩;rw[st,lAp];rfl
       · refine pK (by simpa using h1) ?_;refine⟨_,rfl,rfl,_,rfl,?_⟩;by_cases h2:slot="many"
         · subst h2;obtain⟨l,rfl⟩:=hsh.1 rfl;refine pL (by simp) ?_;obtain⟨ay,xy,rfl,hay,hxy⟩:=dy.tup_of;have hxyl:=hxy.length;have e0:b8 "many" (PyData.tuple l)=l:=rfl;have hlt:(aE (sl.take i) (ps.take i)).length+xy.length≤xc.length:=by
            rw[st,lAp,e0] at hle;lia
           have en:dP "many" (PyData.tuple l) ks (aE (sl.take i) (ps.take i)).length=.tuple ((ks.drop (aE (sl.take i) (ps.take i)).length).take xy.length):=by unfold dP;rw[if_neg (by decide +kernel),if_pos rfl,hxyl];rfl
           have dcut:TDs K H3 ((xc.drop (aE (sl.take i) (ps.take i)).length).take xy.length) ((ks.drop (aE (sl.take i) (ps.take i)).length).take xy.length):=TDs.take (hks3.drop _) _;refine⟨_,rfl,.inl ⟨rfl,_,SqL.of hW3⟩,_,rfl,_,rfl,_,rfl,_,rfl,_,rfl,ay,xy,rfl,.inr hay,_,_,rfl,rfl,_,rfl,?_⟩
           rcases hxc3 with z | z
           · refine .inl ⟨c,xc,rfl,z,fun p hp=>?_⟩;rw[jF _ _ _ hlt];have k5:=smu (o:=HO.lst ((xc.drop (aE (sl.take i) (ps.take i)).length).take xy.length)) hp;refine⟨p,_,rfl,.inl ⟨SqL.of pG,fun u hu=>?_⟩⟩;have k6:=smu (o:=HO.tup ((xc.drop (aE (sl.take i) (ps.take i)).length).take xy.length)) hu;have s4:=k5.trans k6;obtain⟨_,f2,f3,zs,f4,f5⟩:=fin _ (.ref u) s4 (by rw[en];exact .tup (SqT.of pG) ((dcut.same k5).same k6));refine⟨W,ys,.ref u,rfl,rfl,s4 _ _ hW3,hlen,?_⟩;refine⟨_,rfl,_,rfl,ay,xy,rfl,.inr ((s4.seqT hay).tk (aZ (.inr ⟨_,s4 _ _ hW3⟩))),_,_,rfl,rfl,?_⟩;refine hN_ _ _ ⟨f2,f3,⟨zs,f4,f5⟩,some (.str "many"),some (.ref ay),?_⟩;rw[st,lAp,e0,← hxyl];rfl
           · refine .inr ⟨c,xc,rfl,z,fun e=>?_,fun p hp=>?_⟩
             · rw[jF _ _ _ hlt] at e;rw[e] at dcut;refine⟨c,xc,rfl,.inr ⟨z,?_⟩⟩;have s4:=aj.refl H3;obtain⟨_,f2,f3,zs,f4,f5⟩:=fin _ (.ref c) s4 (by rw[en];exact .tup z dcut);refine⟨W,ys,.ref c,rfl,rfl,s4 _ _ hW3,hlen,?_⟩;refine⟨_,rfl,_,rfl,ay,xy,rfl,.inr ((s4.seqT hay).tk (aZ (.inr ⟨_,s4 _ _ hW3⟩))),_,_,rfl,rfl,?_⟩;refine hN_ _ _ ⟨f2,f3,⟨zs,f4,f5⟩,some (.str "many"),some (.ref ay),?_⟩;rw[st,lAp,e0,← hxyl];rfl
             · rw[jF _ _ _ hlt];have k5:=smu (o:=HO.tup ((xc.drop (aE (sl.take i) (ps.take i)).length).take xy.length)) hp;refine⟨p,_,rfl,.inr ⟨SqT.of pG,?_⟩⟩;have s4:=k5;obtain⟨_,f2,f3,zs,f4,f5⟩:=fin _ (.ref p) s4 (by rw[en];exact .tup (SqT.of pG) (dcut.same k5));refine⟨W,ys,.ref p,rfl,rfl,s4 _ _ hW3,hlen,?_⟩;refine⟨_,rfl,_,rfl,ay,xy,rfl,.inr ((s4.seqT hay).tk (aZ (.inr ⟨_,s4 _ _ hW3⟩))),_,_,rfl,rfl,?_⟩;refine hN_ _ _ ⟨f2,f3,⟨zs,f4,f5⟩,some (.str "many"),some (.ref ay),?_⟩;rw[st,lAp,e0,← hxyl];rfl
         · refine pK (by simpa using h2) ?_;have en:dP slot d ks (aE (sl.take i) (ps.take i)).length=d:=by unfold dP;rw[if_neg h1,if_neg h2]
           have e:b8 slot d=[]:=by unfold b8;rw[if_neg h1,if_neg h2]
           obtain⟨_,f2,f3,zs,f4,f5⟩:=fin H3 y (aj.refl _) (by rw[en];exact dy);refine⟨_,rfl,.inl ⟨rfl,_,SqL.of hW3⟩,_,rfl,W,ys,y,rfl,rfl,hW3,hlen,?_⟩;refine hN_ _ _ ⟨f2,f3,⟨zs,f4,f5⟩,some (.str slot),some y,?_⟩;rw[st,e,List.append_nil];rfl
     · rintro σ Hi ⟨s2,_,⟨ys,hWi,hys⟩,x4,x5,rfl⟩;rw[lMp,hfl,← wl,List.take_length] at hys;refine⟨_,rfl,W,ys,rfl,.inl ⟨SqL.of hWi,fun F hF=>?_⟩⟩;have k5:=smu (o:=HO.tup ys) hF;exact q _ _ (s2.trans k5) (.tup (SqT.of pG) (hys.same k5))
end
end K11
namespace L2
theorem a7 {a b:TS} {d:St→Hp→Prop} {r:VK} {k c:St→Hp→Prop} {σ:St} {H:Hp} (h:∀ N:St→Hp→Prop,(∀ σ' H',b ⟨d,r,k,c⟩ σ' H'→N σ' H')→a ⟨N,r,k,c⟩ σ H):v4 a b ⟨d,r,k,c⟩ σ H:=h _ fun _ _ z=>z
theorem aA.byN {J:It} {xs:List V} {Ok:Hp→Prop} (Y:de J xs Ok) {g:TG} {tb:TS} {d:St→Hp→Prop} {r:VK} {k c:St→Hp→Prop} {σ:St} {H:Hp} (Pv:Nat→St→Hp→Prop) (h0:Pv 0 σ H) (hl:∀ i σ H,i≤xs.length→Pv i σ H→Ok H)
 (hs:∀ i x σ H (N B:St→Hp→Prop),(∀ σ' H',Pv (i+1) σ' H'→N σ' H')→(∀ σ' H',d σ' H'→B σ' H')→xs[i]?=some x→Pv i σ H→g x σ H fun σ2 H2=>tb ⟨N,r,B,N⟩ σ2 H2) (hd:∀ σ H,Pv xs.length σ H→d σ H):aA J g tb ⟨d,r,k,c⟩ σ H :=
 aA.by Y Pv h0 hl (fun i x σ H h1 h2=>hs i x σ H _ _ (fun _ _ z=>z) (fun _ _ z=>z) h1 h2) hd
end L2
namespace P10
open PySem L2
def d7 (h:Str):List Str:=((tbl.find? fun p=>decide (p.1=h)).map (·.2)).getD []
theorem gM {h:Str} {sl:List Str} (m:(h,sl)∈tbl):d7 h=sl:=by
 have:∀ p∈tbl,d7 p.1=p.2:=by decide +kernel
 exact this _ m
def ai:PyData→PDs
  | .tuple (.str h::ps)=>aE (d7 h) ps
  | _=>[]
def iH (ks:PDs):PyData→PyData
  | .tuple (.str h::ps)=>.tuple (.str h::cv ks (d7 h) ps 0)
  | d=>d
theorem Nd.kids {d:PyData} {h:Str} {sl:List Str} {ps:PDs} (n:Nd d h sl ps):ai d=aE sl ps:=by
 rw[n.eq];show aE (d7 h) ps=_;rw[gM n.mem]
theorem Nd.put {d:PyData} {h:Str} {sl:List Str} {ps:PDs} (n:Nd d h sl ps) (ks:PDs):iH ks d=.tuple (.str h::cv ks sl ps 0):=by
 rw[n.eq];show PyData.tuple (.str h::cv ks (d7 h) ps 0)=_;rw[gM n.mem]
def atD (d:PyData):List Nat→Option PyData
  | []=>some d
  | i::r=>(ai d)[i]?.bind fun x=>atD x r
def WFd:Nat→PyData→Prop
  | 0,_=>False
  | n+1,d=>∃ h sl ps,Nd d h sl ps∧∀ x∈aE sl ps,WFd n x
theorem WFd.kid {n:Nat} {d x:PyData} (h:WFd (n+1) d) (hx:x∈ai d):WFd n x:=by
 obtain⟨h',sl,ps,nd,w⟩:=h;rw[nd.kids] at hx;exact w x hx
end P10
namespace K11
open PySem L2 P10
section
variable {P:Program} {w:World} {K:Fg} {mg:SOV} {base:Heap}
end
end K11
namespace P10
open PySem L2
def bN (z:Str) (ws:List Str):Bool:=ws.any fun y=>y==z
def w1:List Str:=["number","name","fault"]
def w2:List Str:=["let","var","each"]
def w3:List Str:=["op","new","call"]
def w7:List Str:=["set","fun"]
theorem qQ {h:Str} {sl:List Str} (m:(h,sl)∈tbl) (e:bN h w2=true):sl=(["bound","one","one"]:List Str):=by
 have:∀ p∈tbl,bN p.1 w2=true→p.2=(["bound","one","one"]:List Str):=by decide +kernel
 exact this _ m e
theorem mG (d:PyData):b8 "one" d=[d]:=rfl
theorem vX (l:PDs):b8 "many" (.tuple l)=l:=rfl
theorem iA {s:Str} (h1:s≠"one") (h2:s≠"many") (d:PyData):b8 s d=[]:=by unfold b8;rw[if_neg h1,if_neg h2]
theorem ce (s:Str) (sl:List Str) (p:PyData) (ps:PDs):aE (s::sl) (p::ps)=b8 s p++aE sl ps:=rfl
theorem dh (z:Str) (ws:List Str):inV (V.str z) (ws.map V.str)=bN z ws:=by
 unfold inV bN;rw[List.any_map];rfl
theorem ck (ws:List Str):(ws.map V.str).all eF=true:=by
 rw[List.all_map,List.all_eq_true];intro x _;rfl
end P10
namespace K11
open PySem L2 P10
theorem fE {s:Str} {ps:PDs} (h:Paired Shp [s] ps):∃ p,ps=[p]∧Shp s p:=by
 cases h with
 | cons a t=>cases t;exact⟨_,rfl,a⟩
theorem cM {s s2:Str} {ps:PDs} (h:Paired Shp [s,s2] ps):∃ p p2,ps=[p,p2]∧Shp s p∧Shp s2 p2:=by
 cases h with
 | cons a t=>obtain⟨p2,rfl,h2⟩:=fE t;exact⟨_,_,rfl,a,h2⟩
theorem gF {s s2 s3:Str} {ps:PDs} (h:Paired Shp [s,s2,s3] ps):∃ p p2 p3,ps=[p,p2,p3]∧Shp s p∧Shp s2 p2∧Shp s3 p3:=by
 cases h with
 | cons a t=>obtain⟨p2,p3,rfl,h2,h3⟩:=cM t;exact⟨_,_,_,rfl,a,h2,h3⟩
section
variable {K:Fg} {H:Hp}
theorem uY {xr:List V} {p:PyData} (h:TDs K H xr [p]):∃ x,xr=[x]∧TD K H x p:=by
 cases h with
 | cons a t=>cases t;exact⟨_,rfl,a⟩
theorem ny {xr:List V} {p p2:PyData} (h:TDs K H xr [p,p2]):∃ x x2,xr=[x,x2]∧TD K H x p∧TD K H x2 p2:=by
 cases h with
 | cons a t=>obtain⟨x2,rfl,h2⟩:=uY t;exact⟨_,_,rfl,a,h2⟩
theorem uX {xr:List V} {p p2 p3:PyData} (h:TDs K H xr [p,p2,p3]):∃ x x2 x3,xr=[x,x2,x3]∧TD K H x p∧TD K H x2 p2∧TD K H x3 p3:=by
 cases h with
 | cons a t=>obtain⟨x2,x3,rfl,h2,h3⟩:=ny t;exact⟨_,_,_,rfl,a,h2,h3⟩
end
section
variable {P:Program} {w:World} {K:Fg} {mg:SOV} {base:Heap}
end
end K11
namespace P10
open PySem L2
def cg (h:Str) (ps:PDs):PDs:=if bN h w2=true then ps.take 1 else if h="fun" then aq (ps.headD (.tuple [])) else []
def w8:List Str:=["name","set"]
def dQ (h:Str) (ps:PDs):Option PyData:=if bN h w8=true then ps.head? else none
theorem tp {sl:List Str} (m:(("fun":Str),sl)∈tbl):sl=(["bounds","one"]:List Str):=by
 have:∀ p∈tbl,p.1="fun"→p.2=(["bounds","one"]:List Str):=by decide +kernel
 exact this _ m rfl
theorem vR {h:Str} {sl:List Str} (m:(h,sl)∈tbl) (e:bN h w8=true):sl=(["meant"]:List Str)∨sl=(["meant","one"]:List Str):=by
 have:∀ p∈tbl,bN p.1 w8=true→p.2=(["meant"]:List Str)∨p.2=(["meant","one"]:List Str):=by decide +kernel
 exact this _ m e
end P10
namespace K11
open PySem L2 P10
section
variable {P:Program} {w:World} {K:Fg} {mg:SOV} {base:Heap}
abbrev sBb:Stmt:=top 4
inductive uN (K:Fg) (vs:List V) (H:Hp) (Q:VK):Prop
  | mk (v:V) (d:PyData) (h:Str) (sl:List Str) (ps:PDs) (g0_:vs=[v]) (g1_:TD K H v d) (g2_:Nd d h sl ps) (g3_:∀ v' H',aj H H'→TD K H' v' (.tuple (cg h ps))→Q v' H'):uN K vs H Q
def kc (K:Fg):Sp:=fun vs H Q _=>uN K vs H Q
theorem B3:ax ["e"] ["e"] (a9 sBb):=fsM
theorem zD (D:Def K mg "bound_by" sBb) (T:Blt mg):Fn P w K mg base "bound_by" 1 ["e"] (kc K):=by
 refine D.fn B3 (fun vs H Q E h=>?_) (fun _ _ _ _ _ _ us hl=>by obtain⟨a,rfl⟩:=eo hl;rfl) (fun f cdv A outer s' H vs Q E hr h=>?_)
 · obtain⟨v,d,h',sl,ps,rfl,_⟩:=h;rfl
 · obtain⟨v,d,hd,sl,ps,rfl,td,nd',q⟩:=h;obtain⟨rfl,hm,hshp,hfew⟩:=nd';obtain⟨a,xs,rfl,ha,hx⟩:=td.tup_of;obtain⟨x0,xr,rfl,hx0,hxr⟩:∃ x0 xr,xs=x0::xr∧TD K H x0 (.str hd)∧TDs K H xr ps:=by
    cases hx with
    | cons p q=>exact⟨_,_,rfl,p,q⟩
   obtain rfl:=hx0.str_of;have at0:∀ {x:V} {r:List V},atI (x::r) 0=some x:=fun {x r}=>pJ (j:=0) rfl;have at1:∀ {x y:V} {r:List V},atI (x::y::r) 1=some y:=fun {x y r}=>pJ (j:=1) rfl;refine⟨_,(pE (aN (pO cQ (am aB (pv 0) pH (fun _ _=>rfl)) (az (pA pD (pA pD (pA pD pC)))) (by with_unfolding_all rfl)) (pI (au (az (pA (am aB (pv 0) pH (fun _ _=>rfl)) pC)))) aF)
 (pI (au (fz (pO aT (am aB (pv 0) pH (fun _ _=>rfl)) pD (pP _)) (bA T.tuple (pA (am aB (pv 0) pH (fun _ _=>rfl)) pC)) (az pC))))),?_⟩
   dsimp only[bC,bH,bG];refine⟨_,rfl,a,_,0,.str hd,rfl,rfl,ha,at0,eB,fun t1 ht1=>?_⟩;have k1:=smu (o:=HO.tup (w2.map V.str)) ht1;refine⟨t1,w2.map V.str,rfl,.inr (SqT.of pG),rfl,ck _,_,rfl,?_⟩;rw[dh];have g1:upd H t1 (.tup [V.str "let",V.str "var",V.str "each"])=upd H t1 (.tup (w2.map V.str)):=rfl;rw[g1];generalize upd H t1 (.tup (w2.map V.str))=H1 at k1 ⊢;have ha1:=k1.seqT ha;have hxr1:=hxr.same k1;cases b1:bN hd w2 with
   | true =>
    refine pL rfl ?_;obtain rfl:=qQ hm b1;obtain⟨p0,p1,p2,rfl,_,_,_⟩:=gF hshp;obtain⟨y0,y1,y2,rfl,e0,e1,e2⟩:=uX hxr1;have eb:cg hd [p0,p1,p2]=[p0]:=by unfold cg;rw[if_pos b1];rfl
    rw[eb] at q;refine⟨_,rfl,a,_,1,y0,rfl,rfl,ha1,at1,eC,fun u hu=>?_⟩;have ku:=smu (o:=HO.tup [y0]) hu;exact q _ _ (k1.trans ku) (.tup (SqT.of pG) (.cons (e0.same ku) .nil))
   | false =>
   refine pK (by decide) ?_;refine⟨_,rfl,a,_,0,.str hd,rfl,rfl,ha1,at0,rfl,_,rfl,?_⟩;by_cases b2:hd="fun"
   · subst b2;refine pL (by simp) ?_;obtain rfl:=tp hm;obtain⟨p0,p1,rfl,s0,_⟩:=cM hshp;obtain⟨is,rfl,_⟩:=s0.2.2.2 rfl;obtain⟨y0,y1,rfl,e0,e1⟩:=ny hxr1;obtain⟨c,zs,rfl,hc,hz⟩:=e0.tup_of;have eb:cg "fun" [PyData.tuple (is.map .int),p1]=is.map .int:=by unfold cg;rw[b1,if_neg (by decide),if_pos rfl];rfl
     rw[eb] at q;exact⟨_,rfl,a,_,1,_,rfl,rfl,ha1,at1,c,zs,rfl,.inr ⟨hc,q _ _ k1 (.tup hc hz)⟩⟩
   · refine pK (by simpa using b2) ?_;have eb:cg hd ps=[]:=by unfold cg;rw[b1,if_neg (by decide),if_neg b2]
     rw[eb] at q;refine⟨f9,fun u hu=>?_⟩;exact q _ _ (k1.trans (smu hu)) (.tup (SqT.of pG) .nil)
end
section
variable {P:Program} {w:World} {K:Fg} {mg:SOV} {base:Heap}
abbrev sLb:Stmt:=top 38
theorem B2:ax ["_law_e"] ["_law_e"] (a9 sLb):=fsM
theorem zn (D:Def K mg "_law_bound_ids" sLb):Fn P w K mg base "_law_bound_ids" 1 ["_law_e"] (kc K):=by
 refine D.fn B2 (fun vs H Q E h=>?_) (fun _ _ _ _ _ _ us hl=>by obtain⟨a,rfl⟩:=eo hl;rfl) (fun f cdv A outer s' H vs Q E hr h=>?_)
 · obtain⟨v,d,h',sl,ps,rfl,_⟩:=h;rfl
 · obtain⟨v,d,hd,sl,ps,rfl,td,nd',q⟩:=h;obtain⟨rfl,hm,hshp,hfew⟩:=nd';obtain⟨a,xs,rfl,ha,hx⟩:=td.tup_of;obtain⟨x0,xr,rfl,hx0,hxr⟩:∃ x0 xr,xs=x0::xr∧TD K H x0 (.str hd)∧TDs K H xr ps:=by
    cases hx with
    | cons p q=>exact⟨_,_,rfl,p,q⟩
   obtain rfl:=hx0.str_of;have at0:∀ {x:V} {r:List V},atI (x::r) 0=some x:=fun {x r}=>pJ (j:=0) rfl;have at1:∀ {x y:V} {r:List V},atI (x::y::r) 1=some y:=fun {x y r}=>pJ (j:=1) rfl;refine⟨_,(pE (aN (pO cQ (am aB (pv 0) pH (fun _ _=>rfl)) (az (pA pD (pA pD (pA pD pC)))) (by with_unfolding_all rfl)) (pI (au (az (pA (am aB (pv 0) pH (fun _ _=>rfl)) pC)))) aF)
 (pE (aN (pO aT (am aB (pv 0) pH (fun _ _=>rfl)) pD (pP _)) (pI (au (am aB (pv 0) pH (fun _ _=>rfl)))) aF)
 (pI (au (az pC))))),?_⟩
   dsimp only[bC,bH,bG];refine⟨_,rfl,a,_,0,.str hd,rfl,rfl,ha,at0,eB,fun t1 ht1=>?_⟩;have k1:=smu (o:=HO.tup (w2.map V.str)) ht1;refine⟨t1,w2.map V.str,rfl,.inr (SqT.of pG),rfl,ck _,_,rfl,?_⟩;rw[dh];have g1:upd H t1 (.tup [V.str "let",V.str "var",V.str "each"])=upd H t1 (.tup (w2.map V.str)):=rfl;rw[g1];generalize upd H t1 (.tup (w2.map V.str))=H1 at k1 ⊢;have ha1:=k1.seqT ha;have hxr1:=hxr.same k1;cases b1:bN hd w2 with
   | true =>
    refine pL rfl ?_;obtain rfl:=qQ hm b1;obtain⟨p0,p1,p2,rfl,_,_,_⟩:=gF hshp;obtain⟨y0,y1,y2,rfl,e0,e1,e2⟩:=uX hxr1;have eb:cg hd [p0,p1,p2]=[p0]:=by unfold cg;rw[if_pos b1];rfl
    rw[eb] at q;refine⟨_,rfl,a,_,1,y0,rfl,rfl,ha1,at1,eC,fun u hu=>?_⟩;have ku:=smu (o:=HO.tup [y0]) hu;exact q _ _ (k1.trans ku) (.tup (SqT.of pG) (.cons (e0.same ku) .nil))
   | false =>
   refine pK (by decide) ?_;refine⟨_,rfl,a,_,0,.str hd,rfl,rfl,ha1,at0,rfl,_,rfl,?_⟩;by_cases b2:hd="fun"
   · subst b2;refine pL (by simp) ?_;obtain rfl:=tp hm;obtain⟨p0,p1,rfl,s0,_⟩:=cM hshp;obtain⟨is,rfl,_⟩:=s0.2.2.2 rfl;obtain⟨y0,y1,rfl,e0,e1⟩:=ny hxr1;have eb:cg "fun" [PyData.tuple (is.map .int),p1]=is.map .int:=by unfold cg;rw[b1,if_neg (by decide),if_pos rfl];rfl
     rw[eb] at q;exact⟨_,rfl,a,_,1,_,rfl,rfl,ha1,at1,q _ _ k1 e0⟩
   · refine pK (by simpa using b2) ?_;have eb:cg hd ps=[]:=by unfold cg;rw[b1,if_neg (by decide),if_neg b2]
     rw[eb] at q;refine⟨f9,fun u hu=>?_⟩;exact q _ _ (k1.trans (smu hu)) (.tup (SqT.of pG) .nil)
abbrev sMe:Stmt:=top 5
def Ck (K:Fg) (H:Hp) (v:V):Option PyData→Prop
  | none=>v=.non
  | some d=>TD K H v d
inductive ux (K:Fg) (vs:List V) (H:Hp) (Q:VK):Prop
  | mk (v:V) (d:PyData) (h:Str) (sl:List Str) (ps:PDs) (g0_:vs=[v]) (g1_:TD K H v d) (g2_:Nd d h sl ps) (g3_:∀ v' H',aj H H'→Ck K H' v' (dQ h ps)→Q v' H'):ux K vs H Q
def xF (K:Fg):Sp:=fun vs H Q _=>ux K vs H Q
theorem B1:ax ["e"] ["e"] (a9 sMe):=fsM
theorem zg (D:Def K mg "meant_by" sMe):Fn P w K mg base "meant_by" 1 ["e"] (xF K):=by
 refine D.fn B1 (fun vs H Q E h=>?_) (fun _ _ _ _ _ _ us hl=>by obtain⟨a,rfl⟩:=eo hl;rfl) (fun f cdv A outer s' H vs Q E hr h=>?_)
 · obtain⟨v,d,h',sl,ps,rfl,_⟩:=h;rfl
 · obtain⟨v,d,hd,sl,ps,rfl,td,nd',q⟩:=h;obtain⟨rfl,hm,hshp,hfew⟩:=nd';obtain⟨a,xs,rfl,ha,hx⟩:=td.tup_of;obtain⟨x0,xr,rfl,hx0,hxr⟩:∃ x0 xr,xs=x0::xr∧TD K H x0 (.str hd)∧TDs K H xr ps:=by
    cases hx with
    | cons p q=>exact⟨_,_,rfl,p,q⟩
   obtain rfl:=hx0.str_of;have at0:∀ {x:V} {r:List V},atI (x::r) 0=some x:=fun {x r}=>pJ (j:=0) rfl;have at1:∀ {x y:V} {r:List V},atI (x::y::r) 1=some y:=fun {x y r}=>pJ (j:=1) rfl;refine⟨_,(pI (au (fz (pO cQ (am aB (pv 0) pH (fun _ _=>rfl)) (az (pA pD (pA pD pC))) (by with_unfolding_all rfl)) (am aB (pv 0) pH (fun _ _=>rfl)) vE))),?_⟩;dsimp only[bC,bH,bG];refine⟨_,rfl,a,_,0,.str hd,rfl,rfl,ha,at0,gl,fun t1 ht1=>?_⟩;have k1:=smu (o:=HO.tup (w8.map V.str)) ht1;refine⟨t1,w8.map V.str,rfl,.inr (SqT.of pG),rfl,ck _,_,rfl,?_⟩;rw[dh];have g1:upd H t1 (.tup [V.str "name",V.str "set"])=upd H t1 (.tup (w8.map V.str)):=rfl;rw[g1];generalize upd H t1 (.tup (w8.map V.str))=H1 at k1 ⊢;have ha1:=k1.seqT ha;have hxr1:=hxr.same k1;cases b1:bN hd w8 with
   | true =>
    refine pL rfl ?_;have em:dQ hd ps=ps.head?:=by unfold dQ;rw[if_pos b1]
    rw[em] at q;obtain⟨y0,yr,rfl,p0,pr,rfl,e0⟩:∃ y0 yr,xr=y0::yr∧∃ p0 pr,ps=p0::pr∧TD K H1 y0 p0:=by
     rcases vR hm b1 with rfl | rfl
     · obtain⟨p0,rfl,_⟩:=fE hshp;obtain⟨y0,rfl,e0⟩:=uY hxr1;exact⟨_,_,rfl,_,_,rfl,e0⟩
     · obtain⟨p0,p1,rfl,_⟩:=cM hshp;obtain⟨y0,y1,rfl,e0,_⟩:=ny hxr1;exact⟨_,_,rfl,_,_,rfl,e0⟩
    exact⟨_,rfl,a,_,1,_,rfl,rfl,ha1,at1,q _ _ k1 e0⟩
   | false =>
    refine pK (by decide) ?_;have em:dQ hd ps=none:=by unfold dQ;rw[b1];rfl
    rw[em] at q;exact q _ _ k1 rfl
end
end K11
namespace L2
open PySem PySem.Spec PyProof.Rows
section
variable {X:Cx} {e st:Expr} {te:TE} {tst:TO} {p2 pos:Pos}
def AX (K:Fg) (te:TE) (tst:TO):TE:=fun σ H Q=>te σ H fun x H1=>tst σ H1 fun o H2=>∃ a xs,o=some (-1)∧x=.ref a∧SqL K H2 a xs∧∀ p,H2 p=none→Q (.ref p) (upd H2 p (.lst xs.reverse))
theorem aO.reverse':∀ {xs:List V} {us:List Value},aO xs us→aO xs.reverse us.reverse
 := by
  intro xs us h
  induction h with
  | nil=>exact .nil
  | cons r t ih =>
   rw[List.reverse_cons,List.reverse_cons];exact aO.append ih (.cons r .nil)
theorem qd (he:PE X e te) (hst:PO X (some st) tst):PE X (.Subscript e (.Slice none none (some st) p2) pos) (AX X.K te tst):=by
 intro pins s σ H Q I h;refine Subscript_ (thn (he pins s σ H _ I h) fun v s1 zz122=>?_);obtain⟨x,H1,I1,r1,q1⟩:=zz122;refine wpAny_Slice ?_;rw[evalPart_none];refine wP (wP (thn (hst pins s1 σ H1 _ I1 q1) ?_));rintro vk s3 ⟨o,H3,I3,pk,a,xs,rfl,rfl,hx,q⟩;cases r1;have I4:Inv X pins σ H3 {s3 with heap:=s3.heap.push {cls:=.type "slice",data:=.fields #[.none,.none,vk]}}:=I3.kept (t':=s3.toks) fun b ob q=>hpS _ q;obtain⟨its,r,ht,hz⟩:=I4.list hx;have hlen:=r.length;show wpAny (model X.prog X.w) X.A (subscriptTail e (.Slice none none (some st) p2) (.ref a) (.ref s3.heap.objs.size)) (EP X pins σ Q) X.xe {s3 with heap:=s3.heap.push {cls:=.type "slice",data:=.fields #[.none,.none,vk]}};refine tail_any (ops:=[.ref a,.ref s3.heap.objs.size]) ht.isList.typeIs slot_list_getitem.lookup ?_ (by with_unfolding_all rfl);refine wpAny_getItem_list_slice ht.isList (Heap.IsSliceOf.new ..) .none .none pk (by decide) ?_ (by rw[List.size_toArray] <;> lia);rw[PySem.W.krv_pick];refine⟨.ref _,_,I4.laid (t':=s3.toks) (o:=.lst xs.reverse) (fun b ob q=>hpS _ q) (Nat.le_refl _) ?_,rfl,q _ (I4.hok.fresh (Nat.le_refl _))⟩;exact⟨by rw[List.length_reverse];exact hz,its.reverse,0,r.reverse',Heap.get?_push_size _ rfl⟩
end
end L2
namespace HT
open PySem PySem.Spec PyProof.Rows
theorem lO (n:Nat):Builtin.Slice.sliceAdjust none none (-1) (n:Int)=((n:Int)-1,-1):=rfl
theorem lh (n:Nat):Builtin.Slice.slicePlaces ((n:Int)-1) (-1) (-1)=n:=by
 unfold Builtin.Slice.slicePlaces;rw[if_neg (by decide)];by_cases h:(n:Int)-1>-1
 · rw[if_pos h,show (-(-1):Int)=1 from rfl,Int.ediv_one];omega
 · rw[if_neg h];omega
theorem qa (xs:Array Value):((List.range xs.size).filterMap fun (m:Nat)=>xs[(((xs.size:Int)-1)+(m:Int)*(-1)).toNat]?).toArray=xs.toList.reverse.toArray:=by
 have e:(List.range xs.size).filterMap (fun (m:Nat)=>xs[(((xs.size:Int)-1)+(m:Int)*(-1)).toNat]?)=((List.range xs.size).map fun k=>xs.size-1-k).filterMap (xs[·]?):=by
  rw[List.filterMap_map];have g:∀ l:List Nat,(∀ m∈l,m<xs.size)→l.filterMap (fun (m:Nat)=>xs[(((xs.size:Int)-1)+(m:Int)*(-1)).toNat]?)=l.filterMap ((xs[·]?)∘fun k=>xs.size-1-k):=by
   intro l
   induction l with
   | nil=>intro _;rfl
   | cons m l ih =>
    intro h;have hm:=h m mCS;have e1:xs[(((xs.size:Int)-1)+(m:Int)*(-1)).toNat]?=((xs[·]?)∘fun k=>xs.size-1-k) m:=by
     show _=xs[xs.size-1-m]?;congr 1;omega
    rw[List.filterMap_cons,List.filterMap_cons,e1,ih fun x hx=>h x (mCM _ hx)]
  exact g _ fun m hm=>List.mem_range.mp hm
 rw[e,PySem.W.krv_range,List.filterMap_reverse,PySem.W.krv_all]
section
variable {prog:Program} {w:World} {A:Around} {E:VSP} {s:Shared}
theorem fQ {sl:Addr} {vk:Value} {n:Nat} {Q:Int×Int×Nat→Shared→Prop} (hs:s.heap.IsSliceOf sl .none .none vk) (pk:IsPart vk (some (-1)))
 (h:Q ((n:Int)-1,-1,n) s):wpAny (model prog w) A (Builtin.Slice.sliceApplied (.ref sl) (pure (n:Int))) Q E s:=by
 obtain⟨os,hos,hcs,hds⟩:=id hs;unfold Builtin.Slice.sliceApplied Builtin.Slice.sliceFields;refine wB (wB (wpAny_field hos hds (x:=.none) rfl (wB (wpAny_field hos hds (x:=.none) rfl (wB (wpAny_field hos hds (x:=vk) rfl (wP ?_)))))));refine wB (eN pk ?_);show wpAny _ _ (if ((-1:Int)==0)=true then _ else _) _ _ s;rw[if_neg (by decide)];refine wB (slicePart_none (wB (slicePart_none (wB (wP ?_)))));show wpAny _ _ (match Builtin.Slice.sliceAdjust none none (-1) (n:Int) with | (lo,hi)=>pure (lo,(-1:Int),Builtin.Slice.slicePlaces lo hi (-1))) _ _ s;rw[lO n];show wpAny _ _ (pure ((n:Int)-1,(-1:Int),Builtin.Slice.slicePlaces ((n:Int)-1) (-1) (-1))) _ _ s;rw[lh];exact wP h
theorem fI {t sl:Addr} {aq:Array Value} {vk:Value} {Q:VSP} (ht:IsTup s.heap t aq) (hs:s.heap.IsSliceOf sl .none .none vk) (pk:IsPart vk (some (-1)))
 (h:Q (.ref s.heap.objs.size) {s with heap:=s.heap.push {cls:=.type "tuple",data:=.seq aq.toList.reverse.toArray}})
 (hsz:aq.size≤sizeLine):wpAny (model prog w) A (getItem (.ref t) (.ref sl)) Q E s:=by
 have htake:sizeOk (.seq aq.toList.reverse.toArray):=by
  show aq.toList.reverse.toArray.size≤sizeLine;rw[List.size_toArray,List.length_reverse,Array.length_toList];exact hsz
 obtain⟨os,hos,hcs,hds⟩:=id hs;have hTs:s.TypeIs (.ref sl) "slice":=⟨os,hos,hcs⟩;unfold getItem
 try with_reducible refine wpAny_holding ?_
 first | refine wB (wP ?_) | skip
 refine wB (wpAny_sequenceKey ht.typeIs (by decide) ?_);refine wB (wpAny_callSpecial?_slot (name:=Str.ofString "__getitem__") ht.typeIs PyProof.Rows.slot_tuple_getitem
   (wpAny_call_entry PyProof.Rows.slot_tuple_getitem ht.typeIs entry_tuple_getitem ?_ (args_tuple_getitem _ _)))
 show wpAny _ _ (Builtin.Tuple.tupleItemsOf (.ref t)>>=_) _ _ s;refine wB (tupleItemsOf_ ht ?_);refine wB (wpAny_typeOf hTs ?_);rw[if_pos (by decide)];refine wB (fQ hs pk ?_);have hno:¬ ((((aq.size:Int)-1)==0&&(-1:Int)==1&&aq.size==aq.size)=true):=by
  rw[show ((-1:Int)==1)=false from rfl,Bool.and_false,Bool.false_and]
  decide
 show wpAny _ _ (if (((aq.size:Int)-1)==0&&(-1:Int)==1&&aq.size==aq.size)=true then _ else _) _ _ s;rw[if_neg hno,qa]
 first
  | exact wB (m:=Builtin.Tuple.tupleExact _) (wpAny_newObj_type (wP ⟨_,rfl,wP h⟩) htake)
  | exact wB (m:=Builtin.Tuple.tupleExact _) (wpAny_newObj_type (wB (wP (wP ⟨_,rfl,wP h⟩))) htake)
  | exact wB (wB (m:=Builtin.Tuple.tupleExact _) (wpAny_newObj_type (wP (wP ⟨_,rfl,wP h⟩)) htake))
  | exact wB (wB (m:=Builtin.Tuple.tupleExact _) (wpAny_newObj_type (wP ⟨_,rfl,wP h⟩) htake))
end
end HT
namespace L2
open PySem PySem.Spec PyProof.Rows
section
variable {X:Cx} {e st:Expr} {te:TE} {tst:TO} {p2 pos:Pos}
inductive uO (K:Fg) (x:V) (o:Option Int) (H:Hp) (Q:VK):Prop
  | mk (a:Addr) (xs:List V) (h1:o=some (-1)) (h2:x=.ref a) (h3:SqT K H a xs) (q:∀ p,H p=none→Q (.ref p) (upd H p (.tup xs.reverse))):uO K x o H Q
def wS (K:Fg) (te:TE) (tst:TO):TE:=fun σ H Q=>te σ H fun x H1=>tst σ H1 fun o H2=>uO K x o H2 Q
theorem sG (he:PE X e te) (hst:PO X (some st) tst):PE X (.Subscript e (.Slice none none (some st) p2) pos) (wS X.K te tst):=by
 intro pins s σ H Q I h;refine Subscript_ (thn (he pins s σ H _ I h) fun v s1 zz122=>?_);obtain⟨x,H1,I1,r1,q1⟩:=zz122;refine wpAny_Slice ?_;rw[evalPart_none];refine wP (wP (thn (hst pins s1 σ H1 _ I1 q1) ?_));rintro vk s3 ⟨o,H3,I3,pk,a,xs,rfl,rfl,hx,q⟩;cases r1;have I4:Inv X pins σ H3 {s3 with heap:=s3.heap.push {cls:=.type "slice",data:=.fields #[.none,.none,vk]}}:=I3.kept (t':=s3.toks) fun b ob q=>hpS _ q;obtain⟨its,r,ht,hz⟩:=I4.tuple hx;have hlen:=r.length;show wpAny (model X.prog X.w) X.A (subscriptTail e (.Slice none none (some st) p2) (.ref a) (.ref s3.heap.objs.size)) (EP X pins σ Q) X.xe {s3 with heap:=s3.heap.push {cls:=.type "slice",data:=.fields #[.none,.none,vk]}};refine tail_any (ops:=[.ref a,.ref s3.heap.objs.size]) ht.typeIs PyProof.Rows.slot_tuple_getitem.lookup ?_ (by with_unfolding_all rfl);refine HT.fI ht (Heap.IsSliceOf.new ..) pk ?_ (by rw[List.size_toArray] <;> omega);refine⟨.ref _,_,I4.laid (t':=s3.toks) (o:=.tup xs.reverse) (fun b ob q=>hpS _ q) (Nat.le_refl _) ?_,rfl,q _ (I4.hok.fresh (Nat.le_refl _))⟩;exact⟨by rw[List.length_reverse];exact hz,its.reverse,r.reverse',⟨_,Heap.get?_push_size _ rfl,rfl,0,rfl⟩⟩
end
end L2
namespace L2
open PySem PySem.Spec PyProof.Rows PySem.AutoSeq1
theorem tw {a b:Addr} {us vs:Array Value} {k m:Nat} {dd:Option Addr} {sl:Array (Option Value)} (h0:¬ (!us.isEmpty&&Builtin.List.listTooLong (us.size+vs.size))=true) (h1:us.size≤sizeLine) (h2:us.size+vs.size≤sizeLine+1) :
 Meets (Builtin.«list.extend» ⟨[.ref a,.ref b],[]⟩) fun _ R s=>s.heap.get? a=some ⟨.type "list",none,.seq us k,#[]⟩ ∧
  s.heap.get? b=some ⟨.type "tuple",dd,.seq vs m,sl⟩∧R (.ok (.ret Value.none)) {s with heap:=s.heap.update a (Obj.mapSeq fun x=>x++vs),toks:=s.toks} :=
 .of_wp fun P W B R s z=>by
  rcases s with ⟨c1,c2,c3,c4,c5⟩
  rcases z with ⟨ea,eb,q⟩
  have i1:=PySem.AutoSeq1.sub_tuple_tuple;have i2:=PySem.AutoSeq1.sub_list_list;have i3:=PySem.AutoSeq1.sub_tuple_list;have i4:=PySem.AutoSeq1.sub_list_tuple;have hw:(us++vs).size≤sizeLine+1:=by rw[Array.size_append];exact h2
  wp_walk using (wpAny_updateSeq ea rfl (hz:=h1) (_hz':=hw)),wpAny_loadPart' ea,wpAny_loadPart' eb
  exact⟨_,rfl,q⟩
section
variable {X:Cx} {o e:Expr} {to:TE} {t:TA} {apos cpos:Pos}
inductive uS (K:Fg) (x:V) (vs:List V) (H:Hp) (Q:VK):Prop
  | mk (l b:Addr) (xs zs:List V) (h1:x=.ref l) (h2:vs=[.ref b]) (h3:H l=some (.lst xs)) (h4:SqT K H b zs) (h5:xs.length+zs.length≤sizeLine) (q:Q .non (upd H l (.lst (xs++zs)))):uS K x vs H Q
def tY (K:Fg):V→List V→Hp→VK→Prop:=fun x vs H Q=>uS K x vs H Q
theorem sT:MtM X "list.extend" (tY X.K):=by
 intro pins s σ H x vs v us Q I rx rv h;obtain⟨l,b,xs,zs,rfl,rfl,hH,hB,hz,q⟩:=h;cases rx;obtain⟨u,rfl,ru⟩:=rv.one;cases ru;obtain⟨z,its,n,r,hl,e⟩:=I.lstM hH;obtain⟨its2,r2,⟨o2,e2,c2,n2,d2⟩,z2⟩:=I.tuple hB;have hl2:=r2.length;have hsz:its.toArray.size+its2.toArray.size≤sizeLine:=by rw[List.size_toArray,List.size_toArray];omega
 have hlong:¬ (!its.toArray.isEmpty&&Builtin.List.listTooLong (its.toArray.size+its2.toArray.size))=true:=by
  rw[kF hsz,Bool.and_false];exact Bool.false_ne_true
 obtain⟨cl,dd,da,sl⟩:=o2;cases c2;cases d2;refine call_meets F.slot_list_extend ⟨_,e,rfl⟩ F.entry_list_extend (F.args_list_extend_2 _ _)
  (tw hlong (by rw[List.size_toArray];omega) (by omega)) ⟨e,e2,?_⟩
 refine⟨.non,_,I.lset (its':=its++its2) hH e (by simp) (r.append r2) ?_,rfl,q⟩;rw[lAp];omega
theorem wH (ho:PE X o to) (ha:PA X [e] t) (hbase:attributeBase o "extend" X.env (eval o X.env)=eval o X.env:=by rfl) (hline:(apos.endLine==cpos.line)=true:=by rfl)
 (hfew:((backTo cpos (starEach [e] X.env)).all (fun x=>!x.1)&&(backToKw cpos (keywordEach [] X.env)).all (fun x=>x.1.isSome)&&decide ([e].length+([]:List Keyword).length+(if ([]:List Keyword).isEmpty then 0 else 1)<30))=true:=by rfl)
 (hs:starEach [e] X.env=(false,eval e X.env)::starEach [] X.env:=by rfl) (hplain:(backTo cpos (starEach [] X.env)).any (·.1)=false:=by rfl) :
 PE X (.Call (.Attribute o "extend" apos) [e] [] cpos) (tBM X.K "list" (tY X.K) to t):=qf PySem.F.plainAttrs_list PySem.F.slot_list_extend PySem.F.type_list_extend sT ho ha hbase hfew hline hs hplain
theorem rm (ho:PE X o to) (hbase:attributeBase o "pop" X.env (eval o X.env)=eval o X.env:=by rfl) (hline:(apos.endLine==cpos.line)=true:=by rfl) :
 PE X (.Call (.Attribute o "pop" apos) [] [] cpos) (xk X.K "list" yD to):=vF PySem.F.plainAttrs_list PySem.F.slot_list_pop PySem.F.type_list_pop vQ ho hbase hline
end
end L2
namespace P10
open PySem L2
def b4:Nat→PyData→PDs
  | 0,_=>[]
  | n+1,d=>d::((ai d).map (b4 n)).flatten
def stk (l:List (Nat×PyData)):PDs:=(l.reverse.map fun p=>b4 p.1 p.2).flatten
theorem rV (l:List (Nat×PyData)) (n:Nat) (d:PyData):stk (l++[(n+1,d)])=d::stk (l++((ai d).reverse.map fun x=>(n,x))):=by
 unfold stk;rw[List.reverse_append,List.reverse_append,← List.map_reverse,List.reverse_reverse];show d::(((ai d).map (b4 n)).flatten++_)=d::_;rw[List.map_append,List.flatten_append,List.map_map];rfl
theorem oQ (p:Nat×PyData) (l:List (Nat×PyData)):stk (p::l)=stk l++b4 p.1 p.2:=by
 unfold stk;rw[List.reverse_cons,List.map_append,List.flatten_append];show _++(b4 p.1 p.2++[])=_;rw[List.append_nil]
theorem my {n:Nat} {d:PyData} (h:WFd n d):1≤(b4 n d).length:=by
 cases n with
 | zero=>exact h.elim
 | succ n=>exact Nat.succ_le_succ (Nat.zero_le _)
theorem rW {l:List (Nat×PyData)} (h:∀ p∈l,WFd p.1 p.2):l.length≤(stk l).length:=by
 induction l with
 | nil=>exact Nat.zero_le _
 | cons p l ih =>
  have h1:=ih fun q hq=>h q (mCM _ hq);have h2:=my (h p mCS);rw[oQ,lAp,List.length_cons];omega
theorem TDs.rev {K:Fg} {H:Hp} {xs:List V} {ds:PDs} (h:TDs K H xs ds):TDs K H xs.reverse ds.reverse:=by
 induction xs generalizing ds with
 | nil=>cases h;exact .nil
 | cons x r ih =>
  cases h with
  | cons a b =>
   rw[List.reverse_cons,List.reverse_cons];exact (ih b).snoc a
theorem TDs.last {K:Fg} {H:Hp} {xs:List V} {ds:PDs} {d:PyData} (h:TDs K H xs (ds++[d])):∃ ys y,xs=ys++[y]∧TDs K H ys ds∧TD K H y d:=by
 induction ds generalizing xs with
 | nil=>cases h with | cons a b=>cases b;exact⟨[],_,rfl,.nil,a⟩
 | cons e r ih =>
  cases h with
  | cons a b =>
   obtain⟨ys,y,rfl,p,q⟩:=ih b;exact⟨_::ys,y,rfl,.cons a p,q⟩
end P10
namespace K11
open PySem L2 P10
section
variable {P:Program} {w:World} {K:Fg} {mg:SOV} {base:Heap}
abbrev sWk:Stmt:=top 7
inductive uc (K:Fg) (vs:List V) (H:Hp) (Q:VK):Prop
  | mk (v:V) (d:PyData) (n:Nat) (g0_:vs=[v]) (g1_:TD K H v d) (g2_:WFd n d) (g3_:(b4 n d).length≤900000) (g4_:∀ L H' zs,aj H H'→H L=none→H' L=some (.lst zs)→TDs K H' zs (b4 n d)→Q (.ref L) H'):uc K vs H Q
def xo (K:Fg):Sp:=fun vs H Q _=>uc K vs H Q
theorem xR:ax ["e","met","waiting","node"] ["e"] (a9 sWk):=fsM
theorem yM (D:Def K mg "walked" sWk) (c9:Fn P w K mg base "children_of" 1 ["e"] (rZ K)):Fn P w K mg base "walked" 2 ["e"] (xo K):=by
 refine D.fn xR (fun vs H Q E h=>?_) (fun _ _ _ _ _ _ us hl=>by obtain⟨a,rfl⟩:=eo hl;rfl) (fun f cdv A outer s' H vs Q E hr h=>?_)
 · obtain⟨v,d,n,rfl,_⟩:=h;rfl
 · obtain⟨v,d,n,rfl,td,wf,hsz,q⟩:=h;have nd:=xR.nd;have hz0:(1000000:Nat)<sizeLine:=by decide
   refine⟨_,(pE (pN (i:=1) nd rfl (Or.inl rfl) (ag pC))
 (pE (pN (i:=2) nd rfl (Or.inl rfl) (ag (pA (pv 0) pC)))
 (pE (kx PassesOwn.never (gT (pv 2) (by intro _;rfl))
 (pE (pN (i:=3) nd rfl (Or.inl rfl) (rm (pv 2)))
 (pE (ak (aV (pv 1) (pA (pv 3) pC)))
 (pI (ak (wH (pv 2) (pA (sG (ac c9 (hr.mono (by decide)) rfl (pA (pv 3) pC)) (bE (kz gH pH))) pC)))))))
 (pI (au (pv 1)))))),?_⟩
   dsimp only[bC,bH,bG];refine a7 fun rG iu=>?_;refine⟨f9,fun M hM=>?_⟩;refine iu _ _ (a7 fun nM ig=>?_);have k1:=smu (o:=HO.lst []) hM;have hM1:(upd H M (.lst [])) M=some (.lst []):=pG;generalize upd H M (.lst [])=H1 at k1 hM1 ⊢;refine⟨_,rfl,eC,fun W hW=>?_⟩;have k2:=smu (o:=HO.lst [v]) hW;have hW2:(upd H1 W (.lst [v])) W=some (.lst [v]):=pG;have MW:M≠W:=fun e=>by rw[← e,hM1] at hW;cases hW
   have hM2:=k2 _ _ hM1;have hWH:H W=none:=by
    cases hh:H W with
    | none=>rfl
    | some o=>rw[k1 _ _ hh] at hW;cases hW
   refine ig _ _ (a7 fun sS kK=>?_);generalize upd H1 W (.lst [v])=H2 at k2 hW2 hM2 ⊢;have kk:=k1.trans k2;refine oI (fun σ Hi=>aj H Hi∧∃ (ms ws:List V) (md:PDs) (l:List (Nat×PyData)) (x3:Option V),σ=[some v,some (.ref M),some (.ref W),x3]∧Hi M=some (.lst ms)∧Hi W=some (.lst ws)∧TDs K Hi ms md∧TDs K Hi ws (l.map (·.2))∧(∀ p∈l,WFd p.1 p.2)∧md++stk l=b4 n d)
    (fun _ Hi=>match Hi M with | some (.lst ms)=>900001-ms.length | _=>0)
    ⟨kk,[],[v],[],[(n,d)],_,rfl,hM2,hW2,.nil,.cons (td.same kk) .nil,fun p hp=>by rw[mSg.mp hp];exact wf,by unfold stk;simp⟩ ?_
   rintro σ Hi ⟨sm,ms,ws,md,l,x3,rfl,hMi,hWi,hms,hws,hwf,hst⟩;refine⟨_,rfl,_,.inl ⟨ws,SqL.of hWi,rfl⟩,?_⟩
   rcases List.eq_nil_or_concat l with rfl | ⟨l',p,rfl⟩
   · cases hws;refine pK (by decide) ?_;have e0:md=b4 n d:=by rw[← hst];simp[stk]
     rw[e0] at hms;exact kK _ _ ⟨_,rfl,q M Hi ms sm hM hMi hms⟩
   · obtain⟨m,e⟩:=p;rw[List.concat_eq_append,List.map_append] at hws;rw[List.concat_eq_append] at hwf hst;obtain⟨ws',y,rfl,hws',hy⟩:=TDs.last hws;have hwe:WFd m e:=hwf (m,e) (List.mem_append_right _ (mSg.mpr rfl));obtain⟨m,rfl⟩:∃ m',m=m'+1:=by
      cases m with
      | zero=>exact hwe.elim
      | succ m=>exact⟨m,rfl⟩
     obtain⟨he,sl,ps,nde,hk⟩:=hwe;have hsl:=rW hwf;have hsl2:=congrArg List.length hst;have hwl:=hws'.length;rw[lMp] at hwl;rw[lAp] at hsl hsl2;rw[rV] at hst;have hlen:md.length+1≤900000:=by
      have:=congrArg List.length hst;rw[lAp,List.length_cons] at this;omega
     have hml:=hms.length;refine pL (by cases ws' <;> rfl) ?_;refine⟨fun σ' H'=>(aj H H'∧∃ (ms ws:List V) (md:PDs) (l:List (Nat×PyData)) (x3:Option V),σ'=[some v,some (.ref M),some (.ref W),x3]∧H' M=some (.lst ms)∧H' W=some (.lst ws)∧TDs K H' ms md∧TDs K H' ws (l.map (·.2))∧(∀ p∈l,WFd p.1 p.2)∧md++stk l=b4 n d)∧∃ y,H' M=some (.lst (ms++[y])),?_,?_⟩
     · rintro σ' H' ⟨pv,y',hy'⟩;refine⟨_,?_,rfl,pv⟩;rw[hy',hMi];show 900001-(ms++[y']).length<900001-ms.length;rw[lAp];show 900001-(ms.length+1)<900001-ms.length;omega
     · refine a7 fun BD wm=>?_;refine⟨_,rfl,.inl ⟨rfl,_,SqL.of hWi⟩,W,ws'++[y],y,rfl,rfl,hWi,by simp,?_⟩;rw[List.dropLast_concat];refine wm _ _ (a7 fun BB wg=>?_);have sm3:aj H (upd Hi W (.lst ws')):=aD sm hWH;have hW3:(upd Hi W (.lst ws')) W=some (.lst ws'):=pG;have hM3:(upd Hi W (.lst ws')) M=some (.lst ms):=by rw[aa MW];exact hMi
       have hms3:=hms.tk (aZ (o:=.lst ws') (.inr ⟨_,hWi⟩));have hws3:=hws'.tk (aZ (o:=.lst ws') (.inr ⟨_,hWi⟩));have hy3:=hy.tk (aZ (o:=.lst ws') (.inr ⟨_,hWi⟩));generalize upd Hi W (.lst ws')=H3 at sm3 hW3 hM3 hms3 hws3 hy3 ⊢;refine⟨_,rfl,.inl ⟨rfl,_,SqL.of hM3⟩,_,rfl,M,ms,y,rfl,rfl,hM3,by omega,?_⟩;refine wg _ _ ?_;have sm4:aj H (upd H3 M (.lst (ms++[y]))):=aD sm3 hM;have hM4:(upd H3 M (.lst (ms++[y]))) M=some (.lst (ms++[y])):=pG;have hW4:(upd H3 M (.lst (ms++[y]))) W=some (.lst ws'):=by rw[aa (Ne.symm MW)];exact hW3
       have tk4:Tk H3 (upd H3 M (.lst (ms++[y]))):=aZ (.inr ⟨_,hM3⟩);have hms4:=(hms3.snoc hy3).tk tk4;have hws4:=hws3.tk tk4;have hy4:=hy3.tk tk4;generalize upd H3 M (.lst (ms++[y]))=H4 at sm4 hM4 hW4 tk4 hms4 hws4 hy4 ⊢;refine⟨_,rfl,.inl ⟨rfl,_,SqL.of hW4⟩,_,rfl,y,e,he,sl,ps,rfl,hy4,nde,fun v5 H5 k5 tv=>?_⟩;obtain⟨c,zs,rfl,hc,hzs⟩:=tv.tup_of;refine⟨_,rfl,_,rfl,c,zs,rfl,rfl,hc,fun p hp=>?_⟩;have kp:=smu (o:=HO.tup zs.reverse) hp;have k6:=k5.trans kp;have hW6:=k6 _ _ hW4;have hM6:=k6 _ _ hM4;have hp6:(upd H5 p (.tup zs.reverse)) p=some (.tup zs.reverse):=pG;have hz6:=TDs.rev (hzs.same kp);have hms6:=hms4.same k6;have hws6:=hws4.same k6;have sm6:=sm4.trans k6;generalize upd H5 p (.tup zs.reverse)=H6 at kp k6 hW6 hM6 hp6 hz6 hms6 hws6 sm6 ⊢;have hfew:=nde.few;have hzl:=hz6.length;rw[List.length_reverse,List.length_reverse] at hzl;have hll:ws'.length≤900000:=by
        rw[hwl];have:l'.length≤l'.length+([(m+1,e)]:List (Nat×PyData)).length:=Nat.le_add_right _ _;omega
       refine⟨W,p,ws',zs.reverse,rfl,rfl,hW6,SqT.of hp6,by rw[List.length_reverse];omega,?_⟩;refine⟨⟨aD sm6 hWH,ms++[y],ws'++zs.reverse,md++[e],l'++((ai e).reverse.map fun x=>(m,x)),_,rfl,by rw[aa MW];exact hM6,pG,hms6.tk (aZ (.inr ⟨_,hW6⟩)),?_,fun p' hp'=>?_,?_⟩,y,by rw[aa MW];exact hM6⟩
       · rw[List.map_append,List.map_map,show ((fun x:Nat×PyData=>x.2)∘fun x=>(m,x))=id from rfl,List.map_id,nde.kids];exact (hws6.app hz6).tk (aZ (.inr ⟨_,hW6⟩))
       · rcases mAp.mp hp' with z | z
         · exact hwf p' (List.mem_append_left _ z)
         · obtain⟨x,hx,rfl⟩:=List.mem_map.mp z;rw[List.mem_reverse,nde.kids] at hx;exact hk x hx
       · rw[List.append_assoc];exact hst
end
end K11
namespace P10
open PySem L2
def gK (kvs:List (Key×V)) (i:Int):Int:=match bi kvs (.inl i) with | some (.int j)=>j | _=>i
def cB (g:Int→Int):PyData→PyData
  | .int i=>.int (g i)
  | d=>d
def cb (bs:PDs) (g:Int→Int) (s:Str) (p:PyData):PyData:=if s="bound" then bs.headD p else if s="bounds" then .tuple bs else if s="meant" then cB g p else p
def cZ (bs:PDs) (g:Int→Int) (sl:List Str) (ps:PDs):PDs:=List.zipWith (cb bs g) sl ps
def oz (kvs:List (Key×V)):Prop:=∀ i v,bi kvs (.inl i)=some v→∃ j,v=.int j
theorem jA {kvs:List (Key×V)} (h:oz kvs) (i:Int):(bi kvs (.inl i)).getD (.int i)=V.int (gK kvs i):=by
 unfold gK;cases e:bi kvs (.inl i) with
 | none=>rfl
 | some v=>obtain⟨j,rfl⟩:=h i v e;rfl
theorem mY {bs:PDs} {g:Int→Int} {sl:List Str} {ps:PDs} {i:Nat} {s:Str} {p:PyData} (h1:sl[i]?=some s) (h2:ps[i]?=some p):(cZ bs g sl ps).take (i+1)=(cZ bs g sl ps).take i++[cb bs g s p]:=by
 rw[tAO];congr 1;unfold cZ;rw[List.getElem?_zipWith,h1,h2];rfl
end P10
namespace K11
open PySem L2 P10
section
variable {P:Program} {w:World} {K:Fg} {mg:SOV} {base:Heap}
abbrev sWi:Stmt:=top 6
inductive ud (K:Fg) (vs:List V) (H:Hp) (Q:VK):Prop
  | mk (v vb:V) (m:Addr) (d:PyData) (h:Str) (sl:List Str) (ps bs:PDs) (kvs:List (Key×V)) (g0_:vs=[v,vb,.ref m]) (g1_:TD K H v d) (g2_:Nd d h sl ps) (g3_:TD K H vb (.tuple bs)) (g4_:("bound":Str)∈sl→bs≠[]) (g5_:H m=some (.dK kvs)) (g6_:oz kvs) (g7_:∀ v' H',aj H H'→TD K H' v' (.tuple (.str h::cZ bs (gK kvs) sl ps))→Q v' H'):ud K vs H Q
def xp (K:Fg):Sp:=fun vs H Q _=>ud K vs H Q
theorem xS:ax ["e","bound","meant","told","slot","part"] ["e","bound","meant"] (a9 sWi):=fsM
theorem yN (D:Def K mg "with_ids" sWi) (T:Blt mg) (C:Glb P w K mg):Fn P w K mg base "with_ids" 1 ["e","bound","meant"] (xp K):=by
 refine D.fn xS (fun vs H Q E h=>?_) (fun _ _ _ _ _ _ us hl=>by obtain⟨a,b,c,rfl⟩:=gs hl;rfl) (fun f cdv A outer s' H vs Q E hr h=>?_)
 · obtain⟨v,vb,m,d,h',sl,ps,bs,kvs,rfl,_⟩:=h;rfl
 · obtain⟨v,vb,m,d,hd,sl,ps,bs,kvs,rfl,td,nd',tb,hbn,hm0,hint,q⟩:=h;obtain⟨rfl,hm,hshp,hfew⟩:=nd';obtain⟨a,xs,rfl,ha,hx⟩:=td.tup_of;obtain⟨b,xb,rfl,hb,hxb⟩:=tb.tup_of;obtain⟨aS,kvS,gS,hS,hkv⟩:=C.slots;obtain⟨r,hr1,hr2⟩:=hkv hd sl hm;have nd:=xS.nd;have tl:=fi hm;have hfl:=Paired.length hshp;obtain⟨x0,xr,rfl,hx0,hxr⟩:∃ x0 xr,xs=x0::xr∧TD K H x0 (.str hd)∧TDs K H xr ps:=by
    cases hx with
    | cons p q=>exact⟨_,_,rfl,p,q⟩
   obtain rfl:=hx0.str_of;have hxl:=hxr.length;have hz0:(1000000:Nat)<sizeLine:=by decide
   have hu:=bS hr;refine⟨_,(pE (pN (i:=3) nd rfl (Or.inl rfl) (ag (pA (am aB (pv 0) pH (fun _ _=>rfl)) pC)))
 (pE (bx PassesOwn.never rfl (gE rfl T.zip (pA (jo (jp (v:=.ref aS) rfl gS rfl) (am aB (pv 0) pH (fun _ _=>rfl)) (fun _ _=>rfl)) (pA (c7 eO (pv 0) (bE pH) cL) pC))) (eP rfl (bg (ao (i:=4) nd rfl (Or.inl rfl)) (bg (ao (i:=5) nd rfl (Or.inl rfl)) dl)))
 (pI (aN (pO aT (pv 4) pD (pP _)) (pI (ak (aV (pv 3) (pA (am aB (pv 1) pH (fun _ _=>rfl)) pC)))) (pI (aN (pO aT (pv 4) pD (pP _)) (pI (ak (aV (pv 3) (pA (pv 1) pC)))) (pI (aN (pO aT (pv 4) pD (pP _)) (pI (ak (aV (pv 3) (pA (fA hu (pv 2) (pv 5) (pv 5) ⟨rfl,rfl,rfl,rfl⟩) pC)))) (pI (ak (aV (pv 3) (pA (pv 5) pC)))))))))))
 (pI (au (bA T.tuple (pA (pv 3) pC)))))),?_⟩
   dsimp only[bC,bH,bG];refine a7 fun rG iu=>?_;refine⟨_,rfl,a,_,0,.str hd,rfl,rfl,ha,pJ (j:=0) rfl,eC,fun W hW=>?_⟩;refine iu _ _ (a7 fun nM ig=>?_);have k1:=smu (o:=HO.lst [V.str hd]) hW;have hW1:(upd H W (.lst [V.str hd])) W=some (.lst [V.str hd]):=pG;generalize upd H W (.lst [V.str hd])=H1 at k1 hW1 ⊢;refine⟨_,rfl,a,_,0,.str hd,rfl,rfl,k1.seqT ha,pJ (j:=0) rfl,aS,kvS,.inr hd,.ref r,rfl,hS,rfl,hr1,_,rfl,_,rfl,a,_,rfl,k1.seqT ha,?_,fun p2 hp2=>?_⟩
   · unfold HT.sIx;simp
   · rw[show (some (1:Int))=some (((1:Nat):Nat):Int) from rfl,cF];have k2:=smu (o:=HO.tup ((V.str hd::xr).drop 1)) hp2;have hp2':(upd H1 p2 (.tup ((V.str hd::xr).drop 1))) p2=some (.tup xr):=pG;have hW2:=k2 _ _ hW1;generalize upd H1 p2 (.tup ((V.str hd::xr).drop 1))=H2 at k2 hp2' hW2 ⊢;refine⟨r,p2,_,_,rfl,hr2 _,SqT.of hp2',?_⟩;show aA _ _ _ _ _ _;have hwl:(cZ bs (gK kvs) sl ps).length=ps.length:=by unfold cZ;rw[List.length_zipWith,hfl,Nat.min_self]
     refine aA.zipTN (xs:=sl.map V.str) (ys:=xr) (by rw[lMp];exact hfl.trans hxl.symm) (fun i σ Hi=>aj H Hi∧Hi p2=some (.tup xr)∧(∃ ys,Hi W=some (.lst ys)∧TDs K Hi ys (.str hd::(cZ bs (gK kvs) sl ps).take i))∧∃ x4 x5,σ=[some (.ref a),some (.ref b),some (.ref m),some (.ref W),x4,x5])
      ⟨k1.trans k2,hp2',⟨_,hW2,.cons (.str _) .nil⟩,_,_,rfl⟩ ?_ ?_ ?_
     · rintro i σ Hi _ ⟨_,h2,_⟩;exact⟨hr2 _,SqT.of h2⟩
     · rintro i x y σ Hi t N_ B_ hN_ hxi hyi ⟨s2,hp,⟨ys,hWi,hys⟩,x4,x5,rfl⟩ ht;rw[gEM] at hxi;obtain⟨slot,hsi,rfl⟩:=oMS.mp hxi;obtain⟨d,hdi,htd⟩:=hxr.get hyi;obtain⟨s0,hs0,hsh⟩:=gC hshp hdi;rw[hsi] at hs0;cases hs0;have k3:=smu (o:=HO.tup [V.str slot,y]) ht;have s3:=s2.trans k3;have dy:=htd.same s3;have hW3:=k3 _ _ hWi;have hp3:=k3 _ _ hp;have hys3:=hys.same k3;have pW:p2≠W:=fun e=>by rw[e,hWi] at hp;cases hp
       have hyl:=hys.length;refine⟨t,_,rfl,SqT.of pG,rfl,_,_,rfl,_,_,rfl,rfl,?_⟩;generalize upd Hi t (.tup [V.str slot,y])=H3 at k3 s3 dy hW3 hp3 hys3 ⊢;have hlen:ys.length<sizeLine:=by
        rw[List.length_cons,lTk,hwl] at hyl;omega
       have hm3:=s3 _ _ hm0;have ty3:tyV K "list" (.ref W) H3:=.inl ⟨rfl,_,SqL.of hW3⟩;have done:∀ u,TD K H3 u (cb bs (gK kvs) slot d)→∀ x4 x5,N_ [some (.ref a),some (.ref b),some (.ref m),some (.ref W),x4,x5] (upd H3 W (.lst (ys++[u]))):=fun u hu x4 x5=>hN_ _ _ ⟨aD s3 hW,by rw[aa pW];exact hp3,⟨_,pG,by
         rw[mY hsi hdi,← List.cons_append];exact (hys3.snoc hu).tk (aZ (.inr ⟨_,hW3⟩))⟩,x4,x5,rfl⟩
       refine⟨_,rfl,rfl,_,rfl,?_⟩;by_cases c1:slot="bound"
       · subst c1;refine pL (by simp) ?_;have hb3:=hxb.same s3;have ne:=hbn (mGE hsi);cases bs with
         | nil=>exact absurd rfl ne
         | cons b0 br =>
          cases hb3 with
          | cons e0 er=>exact⟨_,rfl,ty3,_,rfl,b,_,0,_,rfl,rfl,s3.seqT hb,pJ (j:=0) rfl,W,ys,_,rfl,rfl,hW3,hlen,done _ (by unfold cb;rw[if_pos rfl];exact e0) _ _⟩
       · refine pK (by simpa using c1) ?_;refine⟨_,rfl,rfl,_,rfl,?_⟩;by_cases c2:slot="bounds"
         · subst c2;refine pL (by simp) ?_;exact⟨_,rfl,ty3,_,rfl,W,ys,_,rfl,rfl,hW3,hlen,done _ (by unfold cb;rw[if_neg c1,if_pos rfl];exact .tup (s3.seqT hb) (hxb.same s3)) _ _⟩
         · refine pK (by simpa using c2) ?_;refine⟨_,rfl,rfl,_,rfl,?_⟩;by_cases c3:slot="meant"
           · subst c3;refine pL (by simp) ?_;obtain⟨k,rfl⟩:=hsh.2.1 (by decide +kernel);obtain rfl:=dy.int_of;refine⟨_,rfl,ty3,_,rfl,m,rfl,.inl ⟨kvs,.inl hm3⟩,_,rfl,_,rfl,_,bO.k (k:=.inl k) hm3,W,ys,_,rfl,rfl,hW3,hlen,done _ ?_ _ _⟩;rw[jA hint];unfold cb;rw[if_neg c1,if_neg c2,if_pos rfl];exact .int _
           · refine pK (by simpa using c3) ?_;exact⟨_,rfl,ty3,_,rfl,W,ys,_,rfl,rfl,hW3,hlen,done _ (by unfold cb;rw[if_neg c1,if_neg c2,if_neg c3];exact dy) _ _⟩
     · rintro σ Hi ⟨s2,_,⟨ys,hWi,hys⟩,x4,x5,rfl⟩;rw[lMp,hfl,← hwl,List.take_length] at hys;refine ig _ _ ⟨_,rfl,W,ys,rfl,.inl ⟨SqL.of hWi,fun F hF=>?_⟩⟩;have k5:=smu (o:=HO.tup ys) hF;exact q _ _ (s2.trans k5) (.tup (SqT.of pG) (hys.same k5))
end
end K11
namespace L2
open PySem PySem.Spec PyProof.Rows
inductive TyT (K:Fg) (H:Hp):V→String→Prop
  | bl (b:Bool):TyT K H (.bl b) "bool"
  | int (i:Int):TyT K H (.int i) "int"
  | str (x:Str):TyT K H (.str x) "str"
  | tup {a:Addr} {ys:List V} (h:SqT K H a ys):TyT K H (.ref a) "tuple"
inductive AG (K:Fg) (xs:List V) (H:Hp) (Q:VK):Prop
  | mk (x:V) (n T:String) (b:Bool) (h1:xs=[x,.ty T]) (h2:TyT K H x n) (h3:PySem.W.kitOne K (.type n) (.type T)=some b) (q:Q (.bl b) H):AG K xs H Q
def yF (K:Fg):List V→Hp→VK→Prop:=fun xs H Q=>AG K xs H Q
theorem oh {X:Cx}:eL X (.builtin "isinstance") (yF X.K):=by
 intro pins s σ H xs us Q I rv h;obtain⟨x,n,T,b,rfl,hx,hk,q⟩:=h;obtain⟨u,w',rfl,ru,rw'⟩:=rv.two;cases (show w'=Value.type T from rw');cases hx with
 | bl c=>exact fY I ru (.bl c) hk fun tk=>⟨.bl b,H,I.tok _,rfl,q⟩
 | int i=>exact fY I ru (.int i) hk fun tk=>⟨.bl b,H,I.tok _,rfl,q⟩
 | str y=>exact fY I ru (.str y) hk fun tk=>⟨.bl b,H,I.tok _,rfl,q⟩
 | @tup a ys hs =>
  cases (show u=Value.ref a from ru);obtain⟨its,_,⟨o,h1,h2,_⟩,_⟩:=I.tuple hs;exact PySem.W.kia_one PySem.W.kitx_tuple I.kIn ⟨o,h1,h2⟩ hk (fun z=>nomatch z) fun tk=>⟨.bl b,H,I.tok _,rfl,q⟩
theorem eZ {X:Cx} {p pos:Pos} {e:Expr} {es:List Expr} {t:TA} (hm:X.mg "isinstance"=none) (ha:PA X (e::es) t) (hg:Gl X "isinstance":=by rfl)
 (he:starEach (e::es) X.env=(false,eval e X.env)::starEach es X.env:=by rfl) (hpl:(backTo pos (starEach es X.env)).any (·.1)=false:=by rfl) :
 PE X (.Call (.Name "isinstance" p) (e::es) [] pos) (tCB (yF X.K) t):=fB oh hg hm gw ha (he:=he) (hpl:=hpl)
theorem cw {K:Fg} {n:String}:PySem.W.kitOne K (.type n) (.type n)=some true:=by unfold PySem.W.kitOne;rw[if_pos (by simp)]
end L2
namespace P10
open PySem L2
theorem tR {h:Str} {sl:List Str} (m:(h,sl)∈tbl) {s:Str} (hs:s∈sl):s="one"∨s="many"∨s∈(["number","meant","bound","place"]:List Str)∨s∈(["op","word"]:List Str)∨s="bounds":=by
 have:∀ p∈tbl,∀ s∈p.2,s="one"∨s="many"∨s∈(["number","meant","bound","place"]:List Str)∨s∈(["op","word"]:List Str)∨s="bounds":=by decide +kernel
 exact this _ m _ hs
inductive Ay (s:Str) (p:PyData):Prop
  | int (i:Int) (e:p=.int i) (k:b8 s p=[])
  | str (x:Str) (e:p=.str x) (k:b8 s p=[])
  | nil (e:p=.tuple []) (k:b8 s p=[])
  | ids (i:Int) (r:PDs) (e:p=.tuple (.int i::r)) (k:b8 s p=[])
  | one (h:Str) (r:PDs) (e:p=.tuple (.str h::r)) (k:b8 s p=[p])
  | many (q r:PDs) (e:p=.tuple (.tuple q::r)) (k:b8 s p=.tuple q::r)
theorem nV {sl:List Str} {ps:PDs} {i:Nat} {x:PyData} (h:x∈aE (sl.take i) (ps.take i)):x∈aE sl ps:=by
 induction i generalizing sl ps with
 | zero=>cases h
 | succ i ih =>
  cases sl with
  | nil=>cases h
  | cons s sl =>
   cases ps with
   | nil=>cases h
   | cons p ps =>
    rw[ce];rw[List.take_succ_cons,List.take_succ_cons,ce] at h
    rcases mAp.mp h with z | z
    · exact List.mem_append_left _ z
    · exact List.mem_append_right _ (ih z)
theorem WFd.form {n:Nat} {d:PyData} (h:WFd n d):∃ x r,d=.tuple (.str x::r):=by
 cases n with
 | zero=>exact h.elim
 | succ n=>obtain⟨h',sl,ps,nd,_⟩:=h;exact⟨_,_,nd.eq⟩
theorem yJ {n:Nat} {h:Str} {sl:List Str} (hm:(h,sl)∈tbl) {i:Nat} {s:Str} {p:PyData} (h1:sl[i]?=some s) (hs:Shp s p) (hk:∀ x∈b8 s p,WFd n x):Ay s p:=by
 rcases tR hm (mGE h1) with rfl | rfl | z | z | rfl
 · obtain⟨x,r,rfl⟩:=(hk p (by rw[mG];exact mSg.mpr rfl)).form;exact .one x r rfl rfl
 · obtain⟨l,rfl⟩:=hs.1 rfl;cases l with
   | nil=>exact .nil rfl rfl
   | cons q r =>
    obtain⟨x,r',rfl⟩:=(hk q (by rw[vX];exact mCS)).form;exact .many _ _ rfl rfl
 · obtain⟨i,rfl⟩:=hs.2.1 z;exact .int i rfl (iA (fun e=>by rw[e] at z;revert z;decide +kernel) (fun e=>by rw[e] at z;revert z;decide +kernel) _)
 · obtain⟨x,rfl⟩:=hs.2.2.1 z;exact .str x rfl (iA (fun e=>by rw[e] at z;revert z;decide +kernel) (fun e=>by rw[e] at z;revert z;decide +kernel) _)
 · obtain⟨is,rfl,_⟩:=hs.2.2.2 rfl;cases is with
   | nil=>exact .nil rfl (iA (by decide +kernel) (by decide +kernel) _)
   | cons i r=>exact .ids i _ rfl (iA (by decide +kernel) (by decide +kernel) _)
end P10
namespace K11
open PySem L2 P10
structure mT (K:Fg):Prop where
  it:PySem.W.kitOne K (.type "int") (.type "tuple")=some false
  st:PySem.W.kitOne K (.type "str") (.type "tuple")=some false
  ts:PySem.W.kitOne K (.type "tuple") (.type "str")=some false
  is:PySem.W.kitOne K (.type "int") (.type "str")=some false
section
variable {P:Program} {w:World} {K:Fg} {mg:SOV} {base:Heap}
abbrev sLp:Stmt:=top 39
inductive uB (K:Fg) (vs:List V) (H:Hp) (Q:VK):Prop
  | mk (v:V) (d:PyData) (n:Nat) (g0_:vs=[v]) (g1_:TD K H v d) (g2_:WFd (n+1) d) (g3_:∀ L H' zs,aj H H'→H L=none→H' L=some (.lst zs)→TDs K H' zs (ai d)→Q (.ref L) H'):uB K vs H Q
def rY (K:Fg):Sp:=fun vs H Q _=>uB K vs H Q
theorem yh:ax ["_law_e","_law_found","_law_thing"] ["_law_e"] (a9 sLp):=fsM
theorem zk (D:Def K mg "_law_parts" sLp) (T:Blt mg) (kd:mT K):Fn P w K mg base "_law_parts" 1 ["_law_e"] (rY K):=by
 refine D.fn yh (fun vs H Q E h=>?_) (fun _ _ _ _ _ _ us hl=>by obtain⟨a,rfl⟩:=eo hl;rfl) (fun f cdv A outer s' H vs Q E hr h=>?_)
 · obtain⟨v,d,n,rfl,_⟩:=h;rfl
 · obtain⟨v,d,n,rfl,td,wf,q⟩:=h;obtain⟨hd,sl,ps,nde,hkid⟩:=wf;have hkids:=nde.kids;rw[hkids] at q;obtain⟨rfl,hm,hshp,hfew⟩:=nde;obtain⟨a,xs,rfl,ha,hx⟩:=td.tup_of;have nd:=yh.nd;have hfl:=Paired.length hshp;have tl:=fi hm;obtain⟨x0,xr,rfl,hx0,hxr⟩:∃ x0 xr,xs=x0::xr∧TD K H x0 (.str hd)∧TDs K H xr ps:=by
    cases hx with
    | cons p q=>exact⟨_,_,rfl,p,q⟩
   have hxl:=hxr.length;have hz0:(1000000:Nat)<sizeLine:=by decide
   refine⟨_,(pE (pN (i:=1) nd rfl (Or.inl rfl) (ag pC))
 (pE (bx PassesOwn.never rfl (fU (c7 eO (pv 0) (bE pH) cL)) (ao (i:=2) nd rfl (Or.inl rfl))
 (pI (aN (PW.pt (b6 (cS (eZ T.isinstance (pA (pv 2) (pA (dn (v:=.ty "tuple") rfl T.tuple cm rfl) pC)))) (b6 (pO iQ (be T.len (pA (pv 2) pC)) pH (pP _)) (bh (cS (eZ T.isinstance (pA (am aB (pv 2) pH (fun _ _=>rfl)) (pA (dn (v:=.ty "str") rfl T.str ga rfl) pC)))))))) (pI (ak (aV (pv 1) (pA (pv 2) pC)))) (pI (aN (PW.pt (b6 (cS (eZ T.isinstance (pA (pv 2) (pA (dn (v:=.ty "tuple") rfl T.tuple cm rfl) pC)))) (b6 (pO iQ (be T.len (pA (pv 2) pC)) pH (pP _)) (bh (cS (eZ T.isinstance (pA (am aB (pv 2) pH (fun _ _=>rfl)) (pA (dn (v:=.ty "tuple") rfl T.tuple cm rfl) pC)))))))) (pI (pN (i:=1) nd rfl (Or.inl rfl) (aC fF (pv 1) (wM T.list (pA (pv 2) pC))))) aF)))))
 (pI (au (pv 1))))),?_⟩
   dsimp only[bC,bH,bG];refine a7 fun rG iu=>?_;refine⟨f9,fun F0 hF=>?_⟩;refine iu _ _ (a7 fun nM ig=>?_);have k1:=smu (o:=HO.lst []) hF;have hF1:(upd H F0 (.lst [])) F0=some (.lst []):=pG;generalize upd H F0 (.lst [])=H1 at k1 hF1 ⊢;refine⟨_,rfl,_,rfl,a,_,rfl,k1.seqT ha,?_,fun p2 hp2=>?_⟩
   · unfold HT.sIx;simp
   · rw[show (some (1:Int))=some (((1:Nat):Nat):Int) from rfl,cF];have k2:=smu (o:=HO.tup ((x0::xr).drop 1)) hp2;have hp2':(upd H1 p2 (.tup ((x0::xr).drop 1))) p2=some (.tup xr):=pG;have hF2:=k2 _ _ hF1;generalize upd H1 p2 (.tup ((x0::xr).drop 1))=H2 at k2 hp2' hF2 ⊢;refine⟨p2,rfl,⟨_,SqT.of hp2'⟩,?_⟩;show aA _ _ _ _ _ _;refine aA.byN (ca (xs:=xr)) (fun i σ Hi=>aj H Hi∧Hi p2=some (.tup xr)∧∃ (F:Addr) (zs:List V) (x2:Option V),σ=[some (.ref a),some (.ref F),x2]∧H F=none∧Hi F=some (.lst zs)∧TDs K Hi zs (aE (sl.take i) (ps.take i)))
      ⟨k1.trans k2,hp2',F0,[],_,rfl,hF,hF2,.nil⟩ (fun i σ Hi _ z=>SqT.of z.2.1) ?_ ?_
     · rintro i y σ Hi N_ B_ hN_ hB_ hyi ⟨sm,hp,F,zs,x2,rfl,hFH,hFi,hzs⟩;obtain⟨p,hpi,htd⟩:=hxr.get hyi;obtain⟨slot,hsi,hsh⟩:=gC hshp hpi;have dy:=htd.same sm;have st:=eS hsi hpi;have hle:=ib (sl:=sl) (ps:=ps) (i+1);have hzl:=hzs.length;rw[st,lAp] at hle;have pF:p2≠F:=fun e=>by rw[e,hFi] at hp;cases hp
       have hk:∀ x∈b8 slot p,WFd n x:=fun x hx=>hkid x (by
         have e1:x∈aE (sl.take (i+1)) (ps.take (i+1)):=by rw[st];exact List.mem_append_right _ hx
         exact nV e1)
       have none_:b8 slot p=[]→N_ [some (.ref a),some (.ref F),some y] Hi:=fun e=>hN_ _ _ ⟨sm,hp,F,zs,_,rfl,hFH,hFi,by rw[st,e,List.append_nil];exact hzs⟩;cases yJ hm hsi hsh hk with
       | int j e k =>
        subst e;obtain rfl:=dy.int_of;exact⟨_,rfl,_,"int","tuple",false,rfl,.int j,kd.it,false,rfl,aU (aU ⟨_,rfl,_,"int","tuple",false,rfl,.int j,kd.it,false,rfl,aU (aU (none_ k))⟩)⟩
       | str x e k =>
        subst e;obtain rfl:=dy.str_of;exact⟨_,rfl,_,"str","tuple",false,rfl,.str x,kd.st,false,rfl,aU (aU ⟨_,rfl,_,"str","tuple",false,rfl,.str x,kd.st,false,rfl,aU (aU (none_ k))⟩)⟩
       | nil e k =>
        subst e;obtain⟨c,ys,rfl,hc,hys⟩:=dy.tup_of;cases hys;exact⟨_,rfl,_,"tuple","tuple",true,rfl,.tup hc,cw,true,rfl,bj ⟨_,rfl,c,_,rfl,.inr hc,_,_,rfl,rfl,_,rfl,pK (by simp) (aU ⟨_,rfl,_,"tuple","tuple",true,rfl,.tup hc,cw,true,rfl,bj ⟨_,rfl,c,_,rfl,.inr hc,_,_,rfl,rfl,_,rfl,pK (by simp) (aU (none_ k))⟩⟩)⟩⟩
       | ids j r e k =>
        subst e;obtain⟨c,ys,rfl,hc,hys⟩:=dy.tup_of;cases hys with
        | @cons y0 _ yr _ e0 er =>
         obtain rfl:=e0.int_of;have pos:decide ((0:Int)<(((V.int j::yr).length:Nat):Int))=true:=decide_eq_true (by show (0:Int)<((yr.length+1:Nat):Int);omega);exact⟨_,rfl,_,"tuple","tuple",true,rfl,.tup hc,cw,true,rfl,bj ⟨_,rfl,c,_,rfl,.inr hc,_,_,rfl,rfl,_,rfl,pL pos ⟨_,rfl,c,_,0,_,rfl,rfl,hc,pJ (j:=0) rfl,_,"int","str",false,rfl,.int j,kd.is,false,rfl,aU ⟨_,rfl,_,"tuple","tuple",true,rfl,.tup hc,cw,true,rfl,bj ⟨_,rfl,c,_,rfl,.inr hc,_,_,rfl,rfl,_,rfl,pL pos ⟨_,rfl,c,_,0,_,rfl,rfl,hc,pJ (j:=0) rfl,_,"int","tuple",false,rfl,.int j,kd.it,false,rfl,aU (none_ k)⟩⟩⟩⟩⟩⟩
       | one h r e k =>
        subst e;obtain⟨c,ys,rfl,hc,hys⟩:=dy.tup_of;cases hys with
        | @cons y0 _ yr _ e0 er =>
         obtain rfl:=e0.str_of;have pos:decide ((0:Int)<(((V.str h::yr).length:Nat):Int))=true:=decide_eq_true (by show (0:Int)<((yr.length+1:Nat):Int);omega);refine⟨_,rfl,_,"tuple","tuple",true,rfl,.tup hc,cw,true,rfl,bj ⟨_,rfl,c,_,rfl,.inr hc,_,_,rfl,rfl,_,rfl,pL pos ⟨_,rfl,c,_,0,_,rfl,rfl,hc,pJ (j:=0) rfl,_,"str","str",true,rfl,.str h,cw,true,rfl,bj ⟨_,rfl,.inl ⟨rfl,_,SqL.of hFi⟩,_,rfl,F,zs,_,rfl,rfl,hFi,by omega,hN_ _ _ ⟨aD sm hFH,by rw[aa pF];exact hp,F,_,_,rfl,hFH,pG,?_⟩⟩⟩⟩⟩;rw[st,k];exact (hzs.snoc dy).tk (aZ (.inr ⟨_,hFi⟩))
       | many q' r e k =>
        subst e;obtain⟨c,ys,rfl,hc,hys⟩:=dy.tup_of;have hyl:=hys.length;rw[k] at hle;cases hys with
        | @cons y0 _ yr _ e0 er =>
         obtain⟨c0,ys0,rfl,hc0,_⟩:=e0.tup_of;have pos:decide ((0:Int)<(((V.ref c0::yr).length:Nat):Int))=true:=decide_eq_true (by show (0:Int)<((yr.length+1:Nat):Int);omega);refine⟨_,rfl,_,"tuple","tuple",true,rfl,.tup hc,cw,true,rfl,bj ⟨_,rfl,c,_,rfl,.inr hc,_,_,rfl,rfl,_,rfl,pL pos ⟨_,rfl,c,_,0,_,rfl,rfl,hc,pJ (j:=0) rfl,_,"tuple","str",false,rfl,.tup hc0,kd.ts,false,rfl,aU ⟨_,rfl,_,"tuple","tuple",true,rfl,.tup hc,cw,true,rfl,bj ⟨_,rfl,c,_,rfl,.inr hc,_,_,rfl,rfl,_,rfl,pL pos ⟨_,rfl,c,_,0,_,rfl,rfl,hc,pJ (j:=0) rfl,_,"tuple","tuple",true,rfl,.tup hc0,cw,true,rfl,bj ⟨_,rfl,_,rfl,c,_,rfl,.inr hc,fun l hl=>?_⟩⟩⟩⟩⟩⟩⟩;have kl:=smu (o:=HO.lst (V.ref c0::yr)) hl;have hFl:=kl _ _ hFi;have hpl:=kl _ _ hp;have hzl2:=hzs.same kl;have hall:=(TDs.cons e0 er).same kl;have sml:=sm.trans kl;refine⟨F,l,zs,V.ref c0::yr,rfl,rfl,SqL.of hFl,SqL.of pG,by omega,fun p' hp'=>?_⟩;have kp:=smu (o:=HO.lst (zs++V.ref c0::yr)) hp';have hH:H p'=none:=by
          cases hh:H p' with
          | none=>rfl
          | some o=>rw[sml _ _ hh] at hp';cases hp'
         refine hN_ _ _ ⟨sml.trans kp,kp _ _ hpl,p',_,_,rfl,hH,pG,?_⟩;rw[st,k];exact (hzl2.same kp).app (hall.same kp)
     · rintro σ Hi ⟨sm,hp,F,zs,x2,rfl,hFH,hFi,hzs⟩;rw[hxl,List.take_length,← hfl,List.take_length] at hzs;exact ig _ _ ⟨_,rfl,q F Hi zs sm hFH hFi hzs⟩
end
end K11
namespace L2
open PySem PySem.Spec PyProof.Rows PyProof.Rows
section
variable {X:Cx} {p pos:Pos} {e:Expr} {es:List Expr} {t:TA}
inductive rE (xs:List V) (H:Hp) (Q:VK):Prop
  | mk (a:Addr) (kvs:List (Key×V)) (h1:xs=[.ref a]) (h2:H a=some (.dK kvs)) (q:∀ p,H p=none→Q (.ref p) (upd H p (.dK kvs))):rE xs H Q
def pU:List V→Hp→VK→Prop:=fun xs H Q=>rE xs H Q
theorem lL:eL X (.type "dict") pU:=by
 intro pins s σ H xs us Q I rv h;obtain⟨a,kvs,rfl,e,q⟩:=h;obtain⟨u,rfl,ru⟩:=rv.one;cases ru;obtain⟨z,hd,vs,rel,dd⟩:=iZ I.hok e;have hz:vs.length≤sizeLine:=by rw[← Paired.length rel];exact z
 refine kt_call_dict (knd:=aw X.prog X.w) hd dd hz fun h' dd' sb=>?_;refine⟨.ref _,_,I.laid (a:=s.heap.objs.size) (o:=.dK kvs) (h':=h') (t':=s.toks) (fun b ob eb=>sb.extBut b ob (Nat.ne_of_lt (Heap.lt_size eb)) (hpS _ eb)) (Nat.le_refl _) (jD z ?_ rel dd'),rfl,q _ (I.hok.fresh (Nat.le_refl _))⟩;exact beq_eq_false_iff_ne.mpr (Ne.symm (Nat.ne_of_lt I.big))
theorem lN:bootBuiltins "dict"=some (.type "dict"):=by decide +kernel
theorem mV (hm:X.mg "dict"=none) (ha:PA X (e::es) t) (hg:Gl X "dict":=by rfl)
 (he:starEach (e::es) X.env=(false,eval e X.env)::starEach es X.env:=by rfl) (hpl:(backTo pos (starEach es X.env)).any (·.1)=false:=by rfl) :
 PE X (.Call (.Name "dict" p) (e::es) [] pos) (tCB pU t):=ee lL hg hm lN ha (he:=he) (hpl:=hpl)
end
end L2
namespace P10
open PySem L2
def bD (kvs:List (Key×V)):List Int→List Int→List (Key×V)
  | i::is,j::js=>bD (bW kvs (.inl i) (.int j)) is js
  | _,_=>kvs
theorem kw {kvs:List (Key×V)} {is js:List Int} {k:Nat} {i j:Int} (hl:is.length=js.length) (h1:is[k]?=some i) (h2:js[k]?=some j):bD kvs (is.take (k+1)) (js.take (k+1))=bW (bD kvs (is.take k) (js.take k)) (.inl i) (.int j):=by
 induction k generalizing kvs is js with
 | zero =>
  cases is with
  | nil=>cases h1
  | cons a is =>
   cases js with
   | nil=>cases h2
   | cons b js=>cases h1;cases h2;rfl
 | succ k ih =>
  cases is with
  | nil=>cases h1
  | cons a is =>
   cases js with
   | nil=>cases h2
   | cons b js =>
    show bD (bW kvs (.inl a) (.int b)) (is.take (k+1)) (js.take (k+1))=bW (bD (bW kvs (.inl a) (.int b)) (is.take k) (js.take k)) (.inl i) (.int j);exact ih (Nat.succ.inj hl) h1 h2
theorem gR (kvs:List (Key×V)) (is js:List Int):(bD kvs is js).length≤kvs.length+is.length:=by
 induction is generalizing kvs js with
 | nil=>cases js <;> exact Nat.le_add_right _ _
 | cons i is ih =>
  cases js with
  | nil=>exact Nat.le_add_right _ _
  | cons j js =>
   have h1:=ih (bW kvs (.inl i) (.int j)) js;have h2:=bt kvs (.inl i:Key) (.int j);show (bD (bW kvs (.inl i) (.int j)) is js).length≤kvs.length+(is.length+1);omega
end P10
namespace K11
open PySem L2 P10
section
variable {P:Program} {w:World} {K:Fg} {mg:SOV} {base:Heap}
abbrev sWe:Stmt:=top 11
inductive ue (K:Fg) (vs:List V) (H:Hp) (Q:VK):Prop
  | mk (m:Addr) (v1 v2:V) (is js:List Int) (kvs:List (Key×V)) (g0_:vs=[.ref m,v1,v2]) (g1_:H m=some (.dK kvs)) (g2_:TD K H v1 (.tuple (is.map .int))) (g3_:TD K H v2 (.tuple (js.map .int))) (g4_:is.length=js.length) (g5_:kvs.length+is.length≤900000) (g6_:∀ D H',aj H H'→H' D=some (.dK (bD kvs is js))→Q (.ref D) H'):ue K vs H Q
def xq (K:Fg):Sp:=fun vs H Q _=>ue K vs H Q
theorem xT:ax ["table","ids","told","entries","number","thing"] ["table","ids","told"] (a9 sWe):=fsM
theorem yO (D:Def K mg "with_entries" sWe) (T:Blt mg) (td:mg "dict"=none):Fn P w K mg base "with_entries" 1 ["table","ids","told"] (xq K):=by
 refine D.fn xT (fun vs H Q E h=>?_) (fun _ _ _ _ _ _ us hl=>by obtain⟨a,b,c,rfl⟩:=gs hl;rfl) (fun f cdv A outer s' H vs Q E hr h=>?_)
 · obtain⟨m,v1,v2,is,js,kvs,rfl,_⟩:=h;rfl
 · obtain⟨m,v1,v2,is,js,kvs,rfl,hm0,t1,t2,hl,hsz,q⟩:=h;obtain⟨a,xs,rfl,ha,hx⟩:=t1.tup_of;obtain⟨b,ys,rfl,hb,hy⟩:=t2.tup_of;have nd:=xT.nd;have hu:=bS hr;have hz0:(1000000:Nat)<sizeLine:=by decide
   have hxl:=hx.length;have hyl:=hy.length;rw[lMp] at hxl hyl;refine⟨_,(pE (aN (gU (gT (pv 1) (by intro _;rfl))) (pI (au (pv 0))) aF)
 (pE (pN (i:=3) nd rfl (Or.inl rfl) (mV td (pA (pv 0) pC)))
 (pE (bx PassesOwn.never rfl (gE rfl T.zip (pA (pv 1) (pA (pv 2) pC))) (eP rfl (bg (ao (i:=4) nd rfl (Or.inl rfl)) (bg (ao (i:=5) nd rfl (Or.inl rfl)) dl)))
 (pI (b7 hu (pv 3) (pv 4) (pv 5) rfl)))
 (pI (au (pv 3)))))),?_⟩
   dsimp only[bC,bH,bG];refine a7 fun rG iu=>?_;refine⟨_,rfl,_,.inr (.inl ⟨xs,ha,rfl⟩),?_⟩;by_cases his:is=[]
   · subst his;have e1:xs=[]:=List.eq_nil_of_length_eq_zero hxl;have e2:js=[]:=List.eq_nil_of_length_eq_zero hl.symm;subst e1;subst e2;exact pL rfl ⟨_,rfl,q m H (aj.refl _) hm0⟩
   · have e1:(!(!xs.isEmpty))=false:=by
      cases xs with
      | nil=>exact absurd (List.eq_nil_of_length_eq_zero hxl.symm) his
      | cons x r=>rfl
     refine pK (by rw[e1];decide) ?_;refine iu _ _ (a7 fun nM ig=>?_);refine⟨_,rfl,m,kvs,rfl,hm0,fun p hp=>?_⟩;refine ig _ _ (a7 fun sS kK=>?_);have k1:=smu (o:=HO.dK kvs) hp;have hp1:(upd H p (.dK kvs)) p=some (.dK kvs):=pG;generalize upd H p (.dK kvs)=H1 at k1 hp1 ⊢;refine⟨_,rfl,_,rfl,a,b,_,_,rfl,k1.seqT ha,k1.seqT hb,?_⟩;show aA _ _ _ _ _ _;refine aA.zipTN (xs:=xs) (ys:=ys) (by omega) (fun k σ Hi=>aj H Hi∧Hi p=some (.dK (bD kvs (is.take k) (js.take k)))∧∃ x4 x5,σ=[some (.ref m),some (.ref a),some (.ref b),some (.ref p),x4,x5])
      ⟨k1,hp1,_,_,rfl⟩ ?_ ?_ ?_
     · rintro k σ Hi _ ⟨s2,_,_⟩;exact⟨s2.seqT ha,s2.seqT hb⟩
     · rintro k x y σ Hi t N_ B_ hN_ hxk hyk ⟨s2,hpi,x4,x5,rfl⟩ ht;obtain⟨d,hdk,hd⟩:=hx.get hxk;obtain⟨e,hek,he⟩:=hy.get hyk;rw[gEM] at hdk hek;obtain⟨i,hi,rfl⟩:=oMS.mp hdk;obtain⟨j,hj,rfl⟩:=oMS.mp hek;obtain rfl:=hd.int_of;obtain rfl:=he.int_of;have k3:=smu (o:=HO.tup [V.int i,V.int j]) ht;have hp3:=k3 _ _ hpi;have hlen:(bD kvs (is.take k) (js.take k)).length<sizeLine:=by
        have h1:=gR kvs (is.take k) (js.take k);rw[lTk] at h1;omega
       refine⟨t,_,rfl,SqT.of pG,rfl,_,_,rfl,_,_,rfl,rfl,?_⟩;refine⟨_,rfl,_,rfl,_,rfl,p,_,rfl,dI.k (k:=.inl i) hp3 hlen,hN_ _ _ ⟨aD (s2.trans k3) hp,?_,_,_,rfl⟩⟩;rw[kw hl hi hj];exact pG
     · rintro σ Hi ⟨s2,hpi,x4,x5,rfl⟩;rw[hxl,List.take_length,hl,List.take_length] at hpi;exact kK _ _ ⟨_,rfl,q p Hi s2 hpi⟩
end
end K11
namespace P10
open PySem L2
def d6 (built:PDs) (x:PyData):PDs :=
  built.take (built.length-(ai x).length)++[iH ((built.drop (built.length-(ai x).length)).reverse) x]
def bz (f:PyData→PyData):Nat→PyData→PyData
  | 0,d=>d
  | n+1,d=>iH ((ai d).map (bz f n)) (f d)
theorem lg {built us:PDs} {x:PyData} (h:us.length=(ai x).length):d6 (built++us.reverse) x=built++[iH us x]:=by
 have e:(built++us.reverse).length-(ai x).length=built.length:=by rw[lAp,List.length_reverse,h,Nat.add_sub_cancel]
 unfold d6;rw[e,List.take_left,List.drop_left,List.reverse_reverse]
theorem iJ {f:PyData→PyData} (hf:∀ n d,WFd n d→(ai (f d)).length=(ai d).length):∀ (n:Nat) (d:PyData),WFd n d→∀ built:PDs,(((b4 n d).map f).reverse).foldl d6 built=built++[bz f n d]:=by
 intro n
 induction n with
 | zero=>exact fun d h=>h.elim
 | succ n ih =>
  intro d h built;have many:∀ (ks:PDs),(∀ x∈ks,WFd n x)→∀ b:PDs,((((ks.map (b4 n)).flatten).map f).reverse).foldl d6 b=b++(ks.map (bz f n)).reverse:=by
   intro ks
   induction ks with
   | nil=>intro _ b;simp
   | cons k ks ihk =>
    intro hk b;rw[List.map_cons,List.flatten_cons,List.map_append,List.reverse_append,List.foldl_append,ihk (fun x hx=>hk x (mCM _ hx)),ih k (hk k mCS),List.map_cons,List.reverse_cons,List.append_assoc]
  show (((d::((ai d).map (b4 n)).flatten).map f).reverse).foldl d6 built=_;rw[List.map_cons,List.reverse_cons,List.foldl_append,many _ (fun x hx=>h.kid hx)];show d6 (built++((ai d).map (bz f n)).reverse) (f d)=_;rw[lg (by rw[lMp,hf _ _ h])];rfl
theorem qq (bs:PDs) (g:Int→Int) (s:Str) (p:PyData):b8 s (cb bs g s p)=b8 s p:=by
 unfold cb;by_cases h1:s="bound"
 · subst h1;rw[if_pos rfl,iA (by decide +kernel) (by decide +kernel),iA (by decide +kernel) (by decide +kernel)]
 · rw[if_neg h1];by_cases h2:s="bounds"
   · subst h2;rw[if_pos rfl,iA (by decide +kernel) (by decide +kernel),iA (by decide +kernel) (by decide +kernel)]
   · rw[if_neg h2];by_cases h3:s="meant"
     · subst h3;rw[if_pos rfl,iA (by decide +kernel) (by decide +kernel),iA (by decide +kernel) (by decide +kernel)]
     · rw[if_neg h3]
theorem ia (bs:PDs) (g:Int→Int):∀ (sl:List Str) (ps:PDs),aE sl (cZ bs g sl ps)=aE sl ps:=by
 intro sl
 induction sl with
 | nil=>intro ps;cases ps <;> rfl
 | cons s sl ih =>
  intro ps;cases ps with
  | nil=>rfl
  | cons p ps =>
   show aE (s::sl) (cb bs g s p::cZ bs g sl ps)=_;rw[ce,ce,qq,ih]
theorem sh {is:List Int} {g:Int→Int} {s:Str} {p:PyData} (hb:s="bound"→is≠[]) (h3:is.length≤3) (h:Shp s p):Shp s (cb (is.map .int) g s p):=by
 unfold cb;by_cases h1:s="bound"
 · rw[if_pos h1];have ne:=hb h1;subst h1;cases is with
   | nil=>exact absurd rfl ne
   | cons i r=>exact⟨fun z=>absurd z (by decide +kernel),fun _=>⟨i,rfl⟩,fun z=>absurd z (by decide +kernel),fun z=>absurd z (by decide +kernel)⟩
 · rw[if_neg h1];by_cases h2:s="bounds"
   · rw[if_pos h2];subst h2;exact⟨fun z=>absurd z (by decide +kernel),fun z=>absurd z (by decide +kernel),fun z=>absurd z (by decide +kernel),fun _=>⟨is,rfl,h3⟩⟩
   · rw[if_neg h2];by_cases h3:s="meant"
     · rw[if_pos h3];subst h3;obtain⟨i,rfl⟩:=h.2.1 (by decide +kernel);exact⟨fun z=>absurd z (by decide +kernel),fun _=>⟨g i,rfl⟩,fun z=>absurd z (by decide +kernel),fun z=>absurd z (by decide +kernel)⟩
     · rw[if_neg h3];exact h
theorem Nd.wid {d:PyData} {h:Str} {sl:List Str} {ps:PDs} (n:Nd d h sl ps) {is:List Int} (g:Int→Int) (hb:("bound":Str)∈sl→is≠[]) (hb3:is.length≤3):Nd (.tuple (.str h::cZ (is.map .int) g sl ps)) h sl (cZ (is.map .int) g sl ps):=by
 refine⟨rfl,n.mem,?_,by rw[ia];exact n.few⟩;have gen:∀ {sl:List Str} {ps:PDs},Paired Shp sl ps→(("bound":Str)∈sl→is≠[])→Paired Shp sl (cZ (is.map .int) g sl ps):=by
  intro sl ps h
  induction h with
  | nil=>intro _;exact .nil
  | cons r t ih=>exact fun hb=>.cons (sh (fun e=>hb (by rw[e];exact mCS)) hb3 r) (ih fun z=>hb (mCM _ z))
 exact gen n.shp hb
theorem tt {α:Type} {b:Nat}:∀ (ls:List (List α)),(∀ l∈ls,l.length≤b)→ls.flatten.length≤ls.length*b:=by
 intro ls
 induction ls with
 | nil=>intro _;exact Nat.zero_le _
 | cons l ls ih =>
  intro h;have h1:=h l mCS;have h2:=ih fun x hx=>h x (mCM _ hx);rw[List.flatten_cons,lAp,List.length_cons,Nat.succ_mul];omega
theorem sE {n:Nat} {d:PyData} (h:WFd n d):(b4 n d).length≤9 ^ n:=by
 induction n generalizing d with
 | zero=>exact h.elim
 | succ n ih =>
  have hk:=h;obtain⟨h',sl,ps,nd,_⟩:=h;have f8:=nd.few;rw[← nd.kids] at f8;have h1:=tt (b:=9 ^ n) ((ai d).map (b4 n)) (fun l hl=>by
    obtain⟨x,hx,rfl⟩:=List.mem_map.mp hl;exact ih (hk.kid hx))
  rw[lMp] at h1;have h2:(ai d).length*9 ^ n≤8*9 ^ n:=Nat.mul_le_mul_right _ f8;have h3:1≤9 ^ n:=Nat.one_le_pow _ _ (by decide);show ((ai d).map (b4 n)).flatten.length+1≤9 ^ (n+1);rw[Nat.pow_succ];omega
end P10
namespace HT
open PySem PySem.Spec PyProof.Rows
theorem nY {α:Type} {g:Nat→Bool} {k n:Nat} (hg:∀ i,g i=(decide ((k:Int)≤(i:Int))&&decide ((i:Int)<(n:Int))&&(((i:Int)-(k:Int)) % 1==0))):∀ (xs:List α) (j:Nat),j+xs.length≤n→((xs.zipIdx j).filterMap fun p=>if g p.2=true then none else some p.1)=xs.take (k-j):=by
 intro xs
 induction xs with
 | nil=>intro j _;simp
 | cons x r ih =>
  intro j hj;rw[List.length_cons] at hj;rw[List.zipIdx_cons,List.filterMap_cons];have e:=hg j;rw[Int.emod_one] at e;by_cases h:k≤j
  · have e1:g j=true:=by rw[e,decide_eq_true (by omega),decide_eq_true (by omega)];rfl
    dsimp only;rw[if_pos e1,ih (j+1) (by omega)];rw[show k-j=0 by omega,show k-(j+1)=0 by omega];rfl
  · have e1:¬ g j=true:=by rw[e,decide_eq_false (by omega)];exact Bool.false_ne_true
    dsimp only;rw[if_neg e1,ih (j+1) (by omega)];rw[show k-j=(k-(j+1))+1 by omega];rfl
theorem om (n k:Nat) (h:k≤n):sliceBounds (some (k:Int)) none none n=((k:Int),(n:Int),1):=by
 simp only[sliceBounds,Option.getD_none];have h1:¬ ((k:Int)<0):=by omega
 simp only[h1,if_false,show (1:Int)>0 by decide,if_true];congr 1;omega
section
variable {prog:Program} {w:World} {A:Around} {E:VSP} {s:Shared}
theorem jE {l sl:Addr} {its:List Value} {n k:Nat} {t:Tok} {Q:Unit→Shared→Prop} (ho:s.heap.get? l=some {cls:=.type "list",data:=.seq its.toArray n}) (hs:s.heap.IsSliceOf sl (.int (k:Int) t) .none .none) (hk:k≤its.length) (hz:its.length≤sizeLine)
 (h:∀ f:Array Value→Array Value,f its.toArray=(its.take k).toArray→Q () {s with heap:=s.heap.update l (Obj.mapSeq f),toks:=s.toks}):wpAny (model prog w) A (delItem (.ref l) (.ref sl)) Q E s:=by
 obtain⟨os,hos,hcs,hds⟩:=id hs;have hTs:s.TypeIs (.ref sl) "slice":=⟨os,hos,hcs⟩;have hTl:s.TypeIs (.ref l) "list":=⟨_,ho,rfl⟩;refine wpAny_delItem_slot hTl (by decide) F.slot_list_delitem (wpAny_call_entry F.slot_list_delitem hTl F.entry_list_delitem ?_ (F.args_list_delitem_2 _ _));show wpAny _ _ (Builtin.List.listSubscript? (.ref sl)>>=_) _ _ s;refine wB ?_;unfold Builtin.List.listSubscript?;refine wB (wpAny_specialOf hTs slice_no_index ?_);simp only[Option.isNone_none,if_true];refine wP ?_;show wpAny _ _ (typeOf (.ref sl)>>=_) _ _ s;refine wB (wpAny_typeOf hTs ?_);rw[if_neg (by decide)];rw[listSliceParts_eq];refine wB (wB (wpAny_field hos hds (x:=.none) rfl (wB (wpAny_listPart .none ?_))));have hstep:¬ ((rawPart none==rawInt 0)=true):=Bool.false_ne_true;rw[if_neg hstep];refine wB (wpAny_field hos hds (x:=.int (k:Int) t) rfl (wB (wpAny_listPart (.int _ t) ?_)));refine wB (wpAny_field hos hds (x:=.none) rfl (wB (wpAny_listPart .none (wP ?_))));refine wB (m:=Builtin.List.listItems (.ref l)) ?_;unfold Builtin.List.listItems;refine wB (wpAny_seqItems ho rfl (wP ?_));refine wB (wpAny_of_eq (sliceIndices_raw (some (k:Int)) none none its.toArray.size (by simp)) ?_);rw[om _ _ (by rw[List.size_toArray];exact hk)];dsimp only;refine wB (wpAny_rule ?_);have key:∀ f:Array Value→Array Value,f its.toArray=(its.take k).toArray→wpAny (model prog w) A.in1 (Builtin.List.listUpdate (.ref l) f) (fun _ s'=>Q () s'∧True) E s:=fun f hf=>by
  show wpAny _ _ (updateSeq l f) _ _ s;refine wpAny_updateSeq ho rfl ⟨h f hf,trivial⟩ (hz:=by rw[List.size_toArray];exact hz) (_hz':=?_);rw[hf,List.size_toArray,lTk];omega
 refine wB (wpAny_mono (key _ ?_) (fun _ s1 z=>?_) fun _ _ e=>e)
 · refine congrArg List.toArray ((nY (k:=k) (n:=its.toArray.size) (fun i=>rfl) its 0 (by rw[List.size_toArray];omega)).trans ?_);rw[Nat.sub_zero]
 · refine wB (wpAny_letGo ?_);exact wP ⟨_,rfl,z.1⟩
end
end HT
namespace L2
open PySem PySem.Spec PyProof.Rows
section
variable {X:Cx} {o lo:Expr} {to:TE} {tl:TO} {tpos pos p2:Pos}
inductive uT (x:V) (o:Option Int) (H:Hp) (Q:Hp→Prop):Prop
  | mk (l:Addr) (xs:List V) (k:Nat) (h1:x=.ref l) (h2:o=some ((k:Nat):Int)) (h3:H l=some (.lst xs)) (h4:k≤xs.length) (q:Q (upd H l (.lst (xs.take k)))):uT x o H Q
def yv (to:TE) (tl:TO):TS:=fun D σ H=>to σ H fun x H1=>tl σ H1 fun o H2=>uT x o H2 (D.nx σ)
theorem sC (ho:PE X o to) (hl:PO X (some lo) tl):PS X (.Delete [.Subscript o (.Slice (some lo) none none p2) tpos] pos) (yv to tl):=by
 intro pins s σ H D I h;refine wpAny_Delete (wpAny_deleteEach_cons (wpAny_delete_Subscript (thn (ho pins s σ H _ I h) fun u s1 zz=>?_)));obtain⟨x,H1,I1,rx,q1⟩:=zz;refine wpAny_Slice (thn (hl pins s1 σ H1 _ I1 q1) fun vl s2 zz2=>?_);rw[evalPart_none];refine wP (wP ?_);obtain⟨o',H2,I2,pl,l,xs,k,rfl,rfl,hH,hk,q⟩:=zz2;cases rx;cases pl;have I4:Inv X pins σ H2 {s2 with heap:=s2.heap.push {cls:=.type "slice",data:=.fields #[.int (k:Int) ‹_›,.none,.none]}}:=I2.kept (t':=s2.toks) fun b ob q=>hpS _ q;obtain⟨z,its,n,r,hl',e⟩:=I4.lstM hH;have rl:=r.length;refine HT.jE e (Heap.IsSliceOf.new ..) (by omega) (by omega) fun f hf=>wpAny_deleteEach_nil ⟨σ,_,I4.lset (its':=its.take k) hH e hf (r.take k) ?_,q⟩;rw[lTk];omega
end
end L2
namespace P10
open PySem L2
def iE:PDs→PDs→Prop
  | [],_=>True
  | x::r,b=>(ai x).length≤b.length∧(∃ h sl ps,Nd x h sl ps)∧iE r (d6 b x)
theorem iE.app {a c b:PDs} (h1:iE a b) (h2:iE c (a.foldl d6 b)):iE (a++c) b:=by
 induction a generalizing b with
 | nil=>exact h2
 | cons x r ih=>exact⟨h1.1,h1.2.1,ih h1.2.2 h2⟩
theorem nD {f:PyData→PyData} (hf:∀ n d,WFd n d→(ai (f d)).length=(ai d).length) (hn:∀ n d,WFd n d→∃ h sl ps,Nd (f d) h sl ps):∀ (n:Nat) (d:PyData),WFd n d→∀ built:PDs,iE (((b4 n d).map f).reverse) built:=by
 intro n
 induction n with
 | zero=>exact fun d h=>h.elim
 | succ n ih =>
  intro d h built;have many:∀ (ks:PDs),(∀ x∈ks,WFd n x)→∀ b:PDs,iE ((((ks.map (b4 n)).flatten).map f).reverse) b∧((((ks.map (b4 n)).flatten).map f).reverse).foldl d6 b=b++(ks.map (bz f n)).reverse:=by
   intro ks
   induction ks with
   | nil=>intro _ b;exact⟨trivial,by simp⟩
   | cons k ks ihk =>
    intro hk b;obtain⟨s1,e1⟩:=ihk (fun x hx=>hk x (mCM _ hx)) b;rw[List.map_cons,List.flatten_cons,List.map_append,List.reverse_append];refine⟨s1.app (ih k (hk k mCS) _),?_⟩;rw[List.foldl_append,e1,iJ hf n k (hk k mCS),List.map_cons,List.reverse_cons,List.append_assoc]
  obtain⟨s1,e1⟩:=many _ (fun x hx=>h.kid hx) built;show iE (((d::((ai d).map (b4 n)).flatten).map f).reverse) built;rw[List.map_cons,List.reverse_cons];refine s1.app ⟨?_,hn _ _ h,trivial⟩;rw[e1,lAp,List.length_reverse,lMp,hf _ _ h];exact Nat.le_add_left _ _
end P10
namespace K11
open PySem L2 P10
section
variable {P:Program} {w:World} {K:Fg} {mg:SOV} {base:Heap}
abbrev sTo:Stmt:=top 8
inductive ui (K:Fg) (vs:List V) (H:Hp) (Q:VK):Prop
  | mk (B:Addr) (xs:List V) (k:Nat) (g0_:vs=[.ref B,.int ((k:Nat):Int)]) (g1_:H B=some (.lst xs)) (g2_:k≤xs.length) (g3_:∀ L H',(∀ b o,b≠B→H b=some o→H' b=some o)→Tk H H'→L≠B→H L=none→H' B=some (.lst (xs.take (xs.length-k)))→H' L=some (.lst (xs.drop (xs.length-k)).reverse)→Q (.ref L) H'):ui K vs H Q
def xw (K:Fg):Sp:=fun vs H Q _=>ui K vs H Q
theorem xW:ax ["built","many","told"] ["built","many"] (a9 sTo):=fsM
theorem yR (D:Def K mg "taken_off" sTo) (T:Blt mg):Fn P w K mg base "taken_off" 1 ["built","many"] (xw K):=by
 refine D.fn xW (fun vs H Q E h=>?_) (fun _ _ _ _ _ _ us hl=>by obtain⟨a,b,rfl⟩:=fW hl;rfl) (fun f cdv A outer s' H vs Q E hr h=>?_)
 · obtain⟨B,xs,k,rfl,_⟩:=h;rfl
 · obtain⟨B,xs,k,rfl,hB,hk,q⟩:=h;have nd:=xW.nd;refine⟨_,(pE (pN (i:=2) nd rfl (Or.inl rfl) (c7 gB (pv 0) (bE (aC bX (be T.len (pA (pv 0) pC)) (pv 1))) cL))
 (pE (sC (pv 0) (bE (aC bX (be T.len (pA (pv 0) pC)) (pv 1))))
 (pI (au (qd (pv 2) (bE (kz gH pH))))))),?_⟩
   dsimp only[bC,bH,bG];have ek:((xs.length:Nat):Int)-((k:Nat):Int)=((xs.length-k:Nat):Int):=by omega
   refine⟨_,rfl,_,rfl,B,xs,rfl,.inl (SqL.of hB),_,rfl,_,_,rfl,rfl,_,rfl,B,xs,rfl,SqL.of hB,fun p hp=>?_⟩;rw[ek,cF];have k1:=smu (o:=HO.lst (xs.drop (xs.length-k))) hp;have pB:p≠B:=fun e=>by rw[e,hB] at hp;cases hp
   have hp1:(upd H p (.lst (xs.drop (xs.length-k)))) p=some (.lst (xs.drop (xs.length-k))):=pG;generalize upd H p (.lst (xs.drop (xs.length-k)))=H1 at k1 hp1 ⊢;have hB1:=k1 _ _ hB;refine⟨_,rfl,_,rfl,B,xs,rfl,.inl (SqL.of hB1),_,rfl,_,_,rfl,rfl,_,rfl,B,xs,xs.length-k,rfl,by rw[ek],hB1,Nat.sub_le _ _,?_⟩;have t2:Tk H1 (upd H1 B (.lst (xs.take (xs.length-k)))):=aZ (.inr ⟨_,hB1⟩);have hB2:(upd H1 B (.lst (xs.take (xs.length-k)))) B=some (.lst (xs.take (xs.length-k))):=pG;have hp2:(upd H1 B (.lst (xs.take (xs.length-k)))) p=some (.lst (xs.drop (xs.length-k))):=by rw[aa pB];exact hp1
   have o2:∀ b o,b≠B→H1 b=some o→(upd H1 B (.lst (xs.take (xs.length-k)))) b=some o:=fun b o hb z=>by rw[aa hb];exact z
   generalize upd H1 B (.lst (xs.take (xs.length-k)))=H2 at t2 hB2 hp2 o2 ⊢;refine⟨_,rfl,_,rfl,_,rfl,p,_,rfl,rfl,SqL.of hp2,fun L hL=>?_⟩;have k3:=smu (o:=HO.lst (xs.drop (xs.length-k)).reverse) hL;have LB:L≠B:=fun e=>by rw[e,hB2] at hL;cases hL
   refine q L _ (fun b o hb z=>k3 _ _ (o2 b o hb (k1 _ _ z))) ((k1.tk.trans t2).trans k3.tk) LB ?_ (k3 _ _ hB2) pG;cases e:H L with
   | none=>rfl
   | some o=>rw[o2 L o LB (k1 _ _ e)] at hL;cases hL
abbrev sRb:Stmt:=top 9
inductive ur (K:Fg) (vs:List V) (H:Hp) (Q:VK):Prop
  | mk (M:Addr) (zs:List V) (mds:PDs) (r:PyData) (g0_:vs=[.ref M]) (g1_:H M=some (.lst zs)) (g2_:TDs K H zs mds) (g3_:mds.length≤900000) (g4_:iE mds.reverse []) (g5_:mds.reverse.foldl d6 []=[r]) (g6_:∀ v H',aj H H'→TD K H' v r→Q v H'):ur K vs H Q
def xC (K:Fg):Sp:=fun vs H Q _=>ur K vs H Q
theorem y6:ax ["met","built","node"] ["met"] (a9 sRb):=fsM
theorem yY (D:Def K mg "rebuilt" sRb) (T:Blt mg) (c9:Fn P w K mg base "children_of" 1 ["e"] (rZ K)) (gz:Fn P w K mg base "with_children" 1 ["e","children"] (xu K)) (kU:Fn P w K mg base "taken_off" 1 ["built","many"] (xw K)):Fn P w K mg base "rebuilt" 2 ["met"] (xC K):=by
 refine D.fn y6 (fun vs H Q E h=>?_) (fun _ _ _ _ _ _ us hl=>by obtain⟨a,rfl⟩:=eo hl;rfl) (fun f cdv A outer s' H vs Q E hr h=>?_)
 · obtain⟨M,zs,mds,r,rfl,_⟩:=h;rfl
 · obtain⟨M,zs,mds,r,rfl,hM,hzs,hml,hsafe,hfold,q⟩:=h;have nd:=y6.nd;have hz0:(1000000:Nat)<sizeLine:=by decide
   have hzl:=hzs.length;refine⟨_,(pE (pN (i:=1) nd rfl (Or.inl rfl) (ag pC))
 (pE (bx PassesOwn.never rfl (bq (qd (pv 0) (bE (kz gH pH)))) (ao (i:=2) nd rfl (Or.inl rfl))
 (pI (ak (aV (pv 1) (pA (ac gz (hr.mono (by decide)) rfl (pA (pv 2) (pA (ac kU (hr.mono (by decide)) rfl (pA (pv 1) (pA (be T.len (pA (ac c9 (hr.mono (by decide)) rfl (pA (pv 2) pC)) pC)) pC))) pC))) pC)))))
 (pI (au (am aG (pv 1) pH (fun _ _=>rfl)))))),?_⟩
   dsimp only[bC,bH,bG];refine a7 fun rG iu=>?_;refine⟨f9,fun B hB=>?_⟩;refine iu _ _ (a7 fun nM ig=>?_);have k1:=smu (o:=HO.lst []) hB;have hB1:(upd H B (.lst [])) B=some (.lst []):=pG;generalize upd H B (.lst [])=H1 at k1 hB1 ⊢;refine⟨_,rfl,_,rfl,_,rfl,M,zs,rfl,rfl,SqL.of (k1 _ _ hM),fun p hp=>?_⟩;have k2:=smu (o:=HO.lst zs.reverse) hp;have hp2:(upd H1 p (.lst zs.reverse)) p=some (.lst zs.reverse):=pG;have hB2:=k2 _ _ hB1;have pB:p≠B:=fun e=>by rw[e,hB1] at hp;cases hp
   generalize upd H1 p (.lst zs.reverse)=H2 at k2 hp2 hB2 ⊢;refine⟨p,rfl,⟨_,SqL.of hp2⟩,?_⟩;show aA _ _ _ _ _ _;have hrv:=TDs.rev hzs;refine aA.byN (aK (xs:=zs.reverse)) (fun i σ Hi=>aj H Hi∧Hi p=some (.lst zs.reverse)∧(∃ ys bd,Hi B=some (.lst ys)∧TDs K Hi ys bd∧bd=(mds.reverse.take i).foldl d6 []∧iE (mds.reverse.drop i) bd∧bd.length≤i)∧∃ x2,σ=[some (.ref M),some (.ref B),x2])
    ⟨k1.trans k2,hp2,⟨[],[],hB2,.nil,rfl,hsafe,Nat.le_refl _⟩,_,rfl⟩ (fun i σ Hi _ z=>SqL.of z.2.1) ?_ ?_
   · rintro i y σ Hi N_ B_ hN_ hB_ hyi ⟨sm,hpi,⟨ys,bd,hBi,hys,hbd,hsf,hbl⟩,x2,rfl⟩;obtain⟨x,hxi,htx⟩:=hrv.get hyi;have hlt:=(gES.mp hxi).1;rw[List.length_reverse] at hlt;rw[List.drop_eq_getElem_cons (by rw[List.length_reverse];exact hlt)] at hsf;have ex:mds.reverse[i]'(by rw[List.length_reverse];exact hlt)=x:=(gES.mp hxi).2;rw[ex] at hsf;obtain⟨hkl,⟨hx,slx,psx,ndx⟩,hsf'⟩:=hsf;have tx:=htx.same sm;have hyl:=hys.length;refine⟨_,rfl,.inl ⟨rfl,_,SqL.of hBi⟩,_,rfl,_,rfl,_,rfl,y,x,hx,slx,psx,rfl,tx,ndx,fun v3 H3 k3 t3=>?_⟩;obtain⟨c,ws,rfl,hc,hws⟩:=t3.tup_of;have hwl:=hws.length;rw[ndx.kids] at hkl;refine⟨c,ws,rfl,.inr hc,B,ys,ws.length,rfl,k3 _ _ hBi,by rw[hwl,hyl];exact hkl,fun L H4 o4 t4 LB hL hB4 hL4=>?_⟩;have TK:=k3.tk.trans t4;have ty4:=(hys.same k3).tk t4;have ewl:ws.length=(ai x).length:=by rw[ndx.kids];exact hwl
     have ks4:=TDs.rev (ty4.drop (ys.length-ws.length));refine⟨y,L,x,hx,slx,psx,_,rfl,tx.tk TK,ndx,⟨_,.inl (SqL.of hL4),ks4⟩,?_,fun v5 H5 k5 t5=>?_⟩
     · rw[List.length_reverse,List.length_drop,← hyl,← hwl];have:ws.length≤ys.length:=by rw[hwl,hyl];exact hkl
       omega
     · have ep:p≠B:=pB;have hp5:H5 p=some (.lst zs.reverse):=k5 _ _ (o4 p _ ep (k3 _ _ hpi));have hB5:=k5 _ _ hB4;have sm5:aj H H5:=fun b o e=>by
        by_cases hb:b=B
        · rw[hb,hB] at e;cases e
        · exact k5 _ _ (o4 b o hb (k3 _ _ (sm _ _ e)))
       have ty5:=ty4.same k5;refine⟨B,_,v5,rfl,rfl,hB5,by rw[lTk];omega,hN_ _ _ ⟨aD sm5 hB,by rw[aa ep];exact hp5,⟨_,d6 bd x,pG,?_,?_,hsf',?_⟩,_,rfl⟩⟩
       · rw[← ndx.put] at t5;unfold d6;rw[← hyl,← ewl];exact ((TDs.take ty5 _).snoc t5).tk (aZ (.inr ⟨_,hB5⟩))
       · rw[tAO,hxi,List.foldl_append,← hbd];rfl
       · unfold d6;rw[lAp,lTk];show min _ _+1≤i+1;omega
   · rintro σ Hi ⟨sm,hpi,⟨ys,bd,hBi,hys,hbd,hsf,hbl⟩,x2,rfl⟩;rw[List.length_reverse,hzl,← List.length_reverse (as:=mds),List.take_length,hfold] at hbd;subst hbd;cases hys with
     | cons a b =>
      cases b;exact ig _ _ ⟨_,rfl,B,_,0,_,rfl,rfl,SqL.of hBi,pJ (j:=0) rfl,q _ _ sm a⟩
end
end K11
namespace P10
open PySem L2
def ba (g:Int→Int):PyData→PyData
  | .tuple (.str h::ps)=>.tuple (.str h::cZ ((cg h ps).map (cB g)) g (d7 h) ps)
  | d=>d
theorem cU {d:PyData} {h:Str} {sl:List Str} {ps:PDs} (n:Nd d h sl ps):∃ is:List Int,cg h ps=is.map .int∧is.length≤3∧(("bound":Str)∈sl→is≠[]):=by
 obtain⟨_,hm,hshp,_⟩:=n;unfold cg;cases b1:bN h w2 with
 | true =>
  rw[if_pos rfl];obtain rfl:=qQ hm b1;obtain⟨p0,p1,p2,rfl,s0,_,_⟩:=K11.gF hshp;obtain⟨i,rfl⟩:=s0.2.1 (by decide +kernel);exact⟨[i],rfl,by show 1≤3;decide,fun _ z=>nomatch z⟩
 | false =>
  rw[if_neg Bool.false_ne_true];by_cases b2:h="fun"
  · subst b2;rw[if_pos rfl];obtain rfl:=tp hm;obtain⟨p0,p1,rfl,s0,_⟩:=K11.cM hshp;obtain⟨is,rfl,hl⟩:=s0.2.2.2 rfl;exact⟨is,rfl,hl,fun z=>absurd z (by decide +kernel)⟩
  · rw[if_neg b2];refine⟨[],rfl,Nat.zero_le _,fun z=>absurd z ?_⟩;have:∀ p∈tbl,bN p.1 w2=false→("bound":Str)∉p.2:=by decide +kernel
    exact this _ hm b1
theorem Nd.turn {d:PyData} {h:Str} {sl:List Str} {ps:PDs} (n:Nd d h sl ps) (g:Int→Int):ba g d=.tuple (.str h::cZ ((cg h ps).map (cB g)) g sl ps)∧Nd (ba g d) h sl (cZ ((cg h ps).map (cB g)) g sl ps):=by
 obtain⟨is,e,hl,hb⟩:=cU n;have e1:ba g d=.tuple (.str h::cZ ((cg h ps).map (cB g)) g sl ps):=by
  rw[n.eq];show PyData.tuple (.str h::cZ ((cg h ps).map (cB g)) g (d7 h) ps)=_;rw[gM n.mem]
 refine⟨e1,?_⟩;rw[e1,e,List.map_map];have e2:(is.map (cB g∘PyData.int))=(is.map g).map PyData.int:=by rw[List.map_map];rfl
 rw[e2];exact n.wid g (fun z=>by have:=hb z;intro c;exact this (List.map_eq_nil_iff.mp c)) (by rw[lMp];exact hl)
theorem nq (g:Int→Int) (n:Nat) (d:PyData) (h:WFd n d):ai (ba g d)=ai d:=by
 cases n with
 | zero=>exact h.elim
 | succ n =>
  obtain⟨h',sl,ps,nd,_⟩:=h;rw[(nd.turn g).2.kids,ia,nd.kids]
theorem vC {n:Nat} {d:PyData} (h:WFd n d):∀ x∈b4 n d,∃ m,WFd m x:=by
 induction n generalizing d with
 | zero=>exact h.elim
 | succ n ih =>
  intro x hx
  rcases List.mem_cons.mp hx with rfl | hx
  · exact⟨_,h⟩
  · obtain⟨l,hl,hxl⟩:=List.mem_flatten.mp hx;obtain⟨y,hy,rfl⟩:=List.mem_map.mp hl;exact ih (h.kid hy) x hxl
theorem rO (g:Int→Int) (n:Nat) (d:PyData) (h:WFd n d):∃ h sl ps,Nd (ba g d) h sl ps:=by
 cases n with
 | zero=>exact h.elim
 | succ n =>
  obtain⟨h',sl,ps,nd,_⟩:=h;exact⟨_,_,_,(nd.turn g).2⟩
end P10
namespace K11
open PySem L2 P10
section
variable {P:Program} {w:World} {K:Fg} {mg:SOV} {base:Heap}
theorem jX {H:Hp} {g:Int→Int} (is:List Int):TDs K H (is.map fun i=>V.int (g i)) (is.map (cB g∘PyData.int)):=by
 induction is with
 | nil=>exact .nil
 | cons i r ih=>exact .cons (.int _) ih
abbrev sTi:Stmt:=top 13
abbrev nTi:List Str:=["e","ids","turned","node","bound"]
inductive uk (K:Fg) (vs:List V) (H:Hp) (Q:VK):Prop
  | mk (v:V) (m:Addr) (d:PyData) (n:Nat) (kvs:List (Key×V)) (g0_:vs=[v,.ref m]) (g1_:TD K H v d) (g2_:WFd n d) (g3_:(b4 n d).length≤900000) (g4_:H m=some (.dK kvs)) (g5_:oz kvs) (g6_:∀ v' H',aj H H'→TD K H' v' (bz (ba (gK kvs)) n d)→Q v' H'):uk K vs H Q
def xx (K:Fg):Sp:=fun vs H Q _=>uk K vs H Q
theorem xX:ax nTi ["e","ids"] (a9 sTi):=fsM
theorem Bp:(["number","ids"]:List Str).Nodup:=by decide +kernel
theorem yT (D:Def K mg "turned_ids" sTi) (T:Blt mg) (cY:Fn P w K mg base "bound_by" 1 ["e"] (kc K)) (rD:Fn P w K mg base "walked" 2 ["e"] (xo K)) (lT:Fn P w K mg base "with_ids" 1 ["e","bound","meant"] (xp K)) (oA:Fn P w K mg base "rebuilt" 2 ["met"] (xC K)):Fn P w K mg base "turned_ids" 3 ["e","ids"] (xx K):=by
 refine D.fn xX (fun vs H Q E h=>?_) (fun _ _ _ _ _ _ us hl=>by obtain⟨a,b,rfl⟩:=fW hl;rfl) (fun f cdv A outer s' H vs Q E hr h=>?_)
 · obtain⟨v,m,d,n,kvs,rfl,_⟩:=h;rfl
 · obtain⟨v,m,d,n,kvs,rfl,td,wf,hsz,hm,hint,q⟩:=h;have nd:=xX.nd;have hu:=bS hr;have hz0:(1000000:Nat)<sizeLine:=by decide
   refine⟨_,(pE (pN (i:=2) nd rfl (Or.inl rfl) (ag pC))
 (pE (bx PassesOwn.never rfl (bq (ac rD (hr.mono (by decide)) rfl (pA (pv 0) pC))) (ao (i:=3) nd rfl (Or.inl rfl))
 (pE (pN (i:=4) nd rfl (Or.inl rfl) (bA T.tuple (pA (eE (own:=["number"]) (outs:=[(1,"ids")]) rfl (aL.of (a9 sTi) nTi) (fU (ac cY (hr.mono (by decide)) rfl (pA (pv 3) pC))) (fun _ _ _ _=>⟨(ao (i:=0) Bp rfl (Or.inl rfl)),c6,(fA hu (pv 1) (pv 0) (pv 0) ⟨rfl,rfl,rfl,rfl⟩)⟩)) pC)))
 (pI (ak (aV (pv 2) (pA (ac lT (hr.mono (by decide)) rfl (pA (pv 3) (pA (pv 4) (pA (pv 1) pC)))) pC))))))
 (pI (au (ac oA (hr.mono (by decide)) rfl (pA (pv 2) pC)))))),?_⟩
   dsimp only[bC,bH,bG];refine a7 fun rG iu=>?_;refine⟨f9,fun W hW=>?_⟩;refine iu _ _ (a7 fun nM ig=>?_);have k1:=smu (o:=HO.lst []) hW;have hW1:(upd H W (.lst [])) W=some (.lst []):=pG;generalize upd H W (.lst [])=H1 at k1 hW1 ⊢;refine⟨_,rfl,v,d,n,rfl,td.same k1,wf,hsz,fun L H2 zs k2 hL hL2 hzs=>?_⟩;have hW2:=k2 _ _ hW1;have LW:L≠W:=fun e=>by rw[e,hW1] at hL;cases hL
   refine⟨L,rfl,⟨_,SqL.of hL2⟩,?_⟩;show aA _ _ _ _ _ _;have hzl:=hzs.length;refine aA.byN (aK (xs:=zs)) (fun i σ Hi=>aj H Hi∧Hi L=some (.lst zs)∧TDs K Hi zs (b4 n d)∧(∃ ys,Hi W=some (.lst ys)∧TDs K Hi ys (((b4 n d).take i).map (ba (gK kvs))))∧∃ x3 x4,σ=[some v,some (.ref m),some (.ref W),x3,x4])
    ⟨k1.trans k2,hL2,hzs,⟨[],hW2,.nil⟩,_,_,rfl⟩ (fun i σ Hi _ z=>SqL.of z.2.1) ?_ ?_
   · rintro i y σ Hi N_ B_ hN_ hB_ hyi ⟨sm,hLi,hzi,⟨ys,hWi,hys⟩,x3,x4,rfl⟩;obtain⟨x,hxi,tx⟩:=hzi.get hyi;obtain⟨nx,wx⟩:=vC wf x (mGE hxi);obtain⟨hx,slx,psx,ndx⟩:∃ h sl ps,Nd x h sl ps:=by
      cases nx with
      | zero=>exact wx.elim
      | succ nx=>obtain⟨h',sl,ps,nd',_⟩:=wx;exact⟨h',sl,ps,nd'⟩
     obtain⟨is,eis,hisl,hisb⟩:=cU ndx;refine a7 fun sS kK=>?_;rw[cH,gQ,cq,cn];refine⟨_,rfl,y,x,hx,slx,psx,rfl,tx,ndx,fun v3 H3 k3 t3=>?_⟩;rw[eis] at t3;obtain⟨c,ws,rfl,hc,hws⟩:=t3.tup_of;have s3:=sm.trans k3;have hm3:=s3 _ _ hm;refine⟨c,rfl,⟨_,hc⟩,fun U hU=>?_⟩;refine b5.by (ca (xs:=ws)) (fun j σ Hj=>aj H3 Hj∧Hj U=some (.lst ((is.take j).map fun i=>V.int (gK kvs i)))∧∃ y,σ=[y,some (.ref m)]) ⟨smu hU,pG,_,rfl⟩ (fun j σ Hj _ z=>z.1.seqT hc) ?_ ?_
     · rintro j u σ Hj huj ⟨sj,hUj,y',rfl⟩;obtain⟨du,hdu,tdu⟩:=hws.get huj;rw[gEM] at hdu;obtain⟨i',hi',rfl⟩:=oMS.mp hdu;obtain rfl:=tdu.int_of;rw[aY,dN];have hmj:=sj _ _ hm3;refine bj ⟨_,rfl,m,rfl,.inl ⟨kvs,.inl hmj⟩,_,rfl,_,rfl,_,bO.k (k:=.inl i') hmj,_,hUj,by rw[lMp,lTk];omega,aD sj hU,?_,_,rfl⟩;rw[pG,tAO,hi',jA hint];simp
     · rintro σ Hj ⟨sj,hUj,y',rfl⟩;have ewl:=hws.length;rw[lMp] at ewl;rw[ewl,List.take_length] at hUj;refine⟨U,_,rfl,.inl ⟨SqL.of hUj,fun F hF=>?_⟩⟩;have k5:=smu (o:=HO.tup (is.map fun i=>V.int (gK kvs i))) hF;have t5:TD K (upd Hj F (.tup (is.map fun i=>V.int (gK kvs i)))) (.ref F) (.tuple ((cg hx psx).map (cB (gK kvs)))):=by
        refine .tup (SqT.of pG) ?_;rw[eis,List.map_map];exact jX is
       generalize upd Hj F (.tup (is.map fun i=>V.int (gK kvs i)))=H5 at k5 t5 ⊢;have K5:=k3.trans (sj.trans k5);refine kK _ _ ?_;have hW5:=K5 _ _ hWi;refine⟨_,rfl,.inl ⟨rfl,_,SqL.of hW5⟩,_,rfl,_,rfl,_,rfl,y,.ref F,m,x,hx,slx,psx,_,kvs,rfl,tx.same K5,ndx,t5,fun z=>?_,(sm.trans K5) _ _ hm,hint,fun v6 H6 k6 t6=>?_⟩
       · rw[eis];have:=hisb z;intro c;exact this (List.map_eq_nil_iff.mp (List.map_eq_nil_iff.mp c))
       · have hyl:=hys.length;have hlt:=(gES.mp hxi).1;rw[lMp,lTk] at hyl;have hW6:=k6 _ _ hW5;have K6:=K5.trans k6;refine⟨W,ys,v6,rfl,rfl,hW6,by omega,hN_ _ _ ⟨aD (sm.trans K6) hW,by rw[aa LW];exact K6 _ _ hLi,(hzi.same K6).tk (aZ (.inr ⟨_,hW6⟩)),⟨_,pG,?_⟩,_,_,rfl⟩⟩;rw[tAO,hxi,List.map_append];rw[← (ndx.turn (gK kvs)).1] at t6;exact ((hys.same K6).snoc t6).tk (aZ (.inr ⟨_,hW6⟩))
   · rintro σ Hi ⟨sm,hLi,hzi,⟨ys,hWi,hys⟩,x3,x4,rfl⟩;rw[hzl,List.take_length] at hys;have hf:=nq (gK kvs);refine ig _ _ ⟨_,rfl,W,ys,_,bz (ba (gK kvs)) n d,rfl,hWi,hys,by rw[lMp];exact hsz,nD (fun n d h=>by rw[hf n d h]) (rO (gK kvs)) n d wf [],iJ (fun n d h=>by rw[hf n d h]) n d wf [],fun v' H' k' t'=>q _ _ (sm.trans k') t'⟩
end
end K11
namespace L2
open PySem PySem.Spec PyProof.Rows
open AutoSeq1 (wpAny_loadPart')
section
variable {prog:Program} {w:World} {A:Around} {E:VSP} {s:Shared}
theorem wu (l:Addr) (aq:Array Value) (n:Nat) (dct:Option Addr) (sl:Array (Option Value)) :
 Meets (Builtin.«enumerate.__new__» ⟨[.type "enumerate",.ref l],[]⟩) (fun _ R s=>s.heap.get? l=some ⟨.type "tuple",dct,.seq aq n,sl⟩ ∧
   R (.ok (.ret (.ref (s.heap.push ⟨.type "tuple_iterator",none,.fields #[.ref l,.int 0 0],#[]⟩).objs.size))) {s with heap:=(s.heap.push ⟨.type "tuple_iterator",none,.fields #[.ref l,.int 0 0],#[]⟩).push ⟨.type "enumerate",none,.fields #[.none,.bool false,.ref s.heap.objs.size,rawInt 0,.none,.none],#[]⟩}) :=
 .of_wp fun P W B R s z=>by
  rcases s with ⟨c1,c2,c3,c4,c5⟩;rcases z with ⟨hl,z⟩
  have hs:=sub_enumerate;have hT:Heap.IsTuple (Shared.heap ⟨c1,c2,c3,c4,c5⟩) l aq:=⟨_,hl,rfl,n,rfl⟩
  wp_walk using wpAny_loadPart' hl
  refine wpAny_stack_any fun st=>wP ?_;split
  · rename_i c _ _ _ _ _
    cases (c==Value.type "enumerate")
    · wp_walk using wpAny_loadPart' hl,wpAny_pyIter_tuple hT;exact⟨_,rfl,z⟩
    · wp_walk using wpAny_loadPart' hl,wpAny_pyIter_tuple hT;exact⟨_,rfl,z⟩
  · wp_walk using wpAny_loadPart' hl,wpAny_pyIter_tuple hT;exact⟨_,rfl,z⟩
theorem qN {l:Addr} {aq:Array Value} {Q:VSP} (hT:s.heap.IsTuple l aq)
 (q:∀ h',IsEnum h' (s.heap.objs.size+1) s.heap.objs.size 0 .none→h'.IsTupleIter s.heap.objs.size l 0→(∀ b o,s.heap.get? b=some o→h'.get? b=some o)→Q (.ref (s.heap.objs.size+1)) {s with heap:=h'}) :
 wpAny (model prog w) A (call (.type "enumerate") [.ref l]) Q E s:=by
 obtain⟨⟨c,dct,dt,sl⟩,hl,hc,n,hd⟩:=hT;cases (show c=.type "tuple" from hc);cases (show dt=.seq aq n from hd);refine callType_new F.called_enumerate (by decide) (F.typeCall_enumerate_1 _) (F.newCall_enumerate_1 _) (fun obj=>F.args_object_init_2 obj _) F.entry_enumerate_new (wu l aq n dct sl) ⟨hl,?_⟩;have hz:(s.heap.push ⟨.type "tuple_iterator",none,.fields #[.ref l,.int 0 0],#[]⟩).objs.size=s.heap.objs.size+1:=Heap.size_push ..;have g:=Heap.get?_push_size (s.heap.push ⟨.type "tuple_iterator",none,.fields #[.ref l,.int 0 0],#[]⟩) (o:=⟨.type "enumerate",none,.fields #[.none,.bool false,.ref s.heap.objs.size,rawInt 0,.none,.none],#[]⟩) rfl;show _∧_;rw[hz] at g ⊢;exact⟨⟨_,g,rfl⟩,q _ g ⟨_,hpS _ (Heap.get?_push_size _ rfl),rfl,rfl⟩ fun b o x=>hpS _ (hpS _ x)⟩
variable {e it src:Addr} {xs:Array Value} {J:Nat→Heap→Prop} {k:Nat} {x old:Value}
theorem tD {Q:Option Value→Shared→Prop} (W:Drw prog w it src xs J) (he:IsEnum s.heap e it k old) (st:J k s.heap) (hx:xs[k]?=some x) (ne:e≠it) (ns:e≠src)
 (q:∀ h',IsEnumOut h' e it ((k:Int)+1) x s.heap.objs.size→J (k+1) h'→h'.get? s.heap.objs.size=some ⟨.type "tuple",none,.seq #[.int k s.toks,x] 0,#[]⟩→(∀ b o,b≠e→b≠it→s.heap.get? b=some o→h'.get? b=some o)→Q (some (.ref s.heap.objs.size)) {s with heap:=h',toks:=s.toks+1}) :
 wpAny (model prog w) A (pyNext (.ref e)) Q E s:=by
 have hT:s.TypeIs (.ref e) "enumerate":=⟨_,he,rfl⟩;unfold pyNext;refine wB (wpAny_attempt (wpAny_callSpecial?_slot (name:=Str.ofString "__next__") hT F.slot_enumerate_next (wpAny_call_entry F.slot_enumerate_next hT F.entry_enumerate_next ?_ (F.args_enumerate_next_1 _))));obtain⟨c1,c2,c3,c4,c5⟩:=s;show wpAny _ _ (field (.ref e) 2>>=_) _ _ _;refine wB (wpAny_field he rfl (x:=.ref it) rfl ?_);refine wB (W.item _ _ _ k x _ st hx fun p1 st1 sb1=>?_);replace sb1:Heap.SameBut it c1 p1:=sb1;have e1:IsEnum p1 e it k old:=(sb1.2 e ne).trans he;show wpAny _ _ (field (.ref e) 3>>=_) _ _ ⟨p1,c2,c3,c4,c5⟩;refine wB (wpAny_field e1 rfl (x:=rawInt k) rfl ?_);show wpAny _ _ (field (.ref e) 4>>=_) _ _ ⟨p1,c2,c3,c4,c5⟩;refine wB (wpAny_field e1 rfl (x:=.none) rfl ?_);show wpAny _ _ (mkInt k>>=_) _ _ ⟨p1,c2,c3,c4,c5⟩;refine wB (wpAny_mkInt ?_);show wpAny _ _ (setField (.ref e) 3 (rawInt ((k:Int)+1))>>=_) _ _ ⟨p1,c2,c3,c4+1,c5⟩;refine wB (wpAny_setField_rec e1 (by simp) fun p2 e2 sb2=>?_);replace sb2:Heap.SameBut e p1 p2:=sb2;replace e2:IsEnum p2 e it ((k:Int)+1) old:=e2;show wpAny _ _ (setField (.ref e) 4 .none>>=_) _ _ ⟨p2,c2,c3,c4+1,c5⟩;refine wB (wpAny_setField_rec e2 (by simp) fun p3 e3 sb3=>?_);replace sb3:Heap.SameBut e p2 p3:=sb3;replace e3:IsEnum p3 e it ((k:Int)+1) old:=e3;show wpAny _ _ (newTuple [.int k c4,x]>>=_) _ _ ⟨p3,c2,c3,c4+1,c5⟩;refine wB (wpAny_newTuple ?_);have zz:p3.objs.size=c1.objs.size:=by rw[sb3.1,sb2.1,sb1.1]
 have e4:IsEnum (p3.push {cls:=.type "tuple",data:=.seq #[.int k c4,x]}) e it ((k:Int)+1) old:=hpS _ e3;have t4:(p3.push {cls:=.type "tuple",data:=.seq #[.int k c4,x]}).get? c1.objs.size=some ⟨.type "tuple",none,.seq #[.int k c4,x] 0,#[]⟩:=by rw[← zz];exact Heap.get?_push_size _ rfl
 have k4:∀ b o,b≠e→p1.get? b=some o→(p3.push {cls:=.type "tuple",data:=.seq #[.int k c4,x]}).get? b=some o:=fun b o hb g=>hpS _ (sb3.extBut b o hb (sb2.extBut b o hb g));show wpAny _ _ (Builtin.SmallTypes.ownedTupleIsFree (.ref e)>>=_) _ _ ⟨p3.push {cls:=.type "tuple",data:=.seq #[.int k c4,x]},c2,c3,c4+1,c5⟩;rw[zz];generalize p3.push {cls:=.type "tuple",data:=.seq #[.int k c4,x]}=p4 at e4 t4 k4 ⊢;clear e3 sb3 e2 sb2 e1 zz p3 p2;have el:e<c1.objs.size:=Heap.lt_size he;refine wB ?_;unfold Builtin.SmallTypes.ownedTupleIsFree;refine wB (wpAny_field e4 rfl (x:=.none) rfl (wP ?_));simp only[if_true];refine wB (wpAny_rule ?_);refine wB (wpAny_field e4 rfl (x:=old) rfl ?_);refine wB (wpAny_setField_rec e4 (by simp) fun p5 e5 sb5=>?_);replace sb5:Heap.SameBut e p4 p5:=sb5;replace e5:IsEnum p5 e it ((k:Int)+1) x:=e5;show wpAny _ _ (Builtin.SmallTypes.ownedTupleHandOut (.ref e) (.ref c1.objs.size)>>=_) _ _ ⟨p5,c2,c3,c4+1,c5⟩;refine wB ?_;unfold Builtin.SmallTypes.ownedTupleHandOut;refine wB (wpAny_setField_rec e5 (by simp) fun p6 e6 sb6=>?_);replace sb6:Heap.SameBut e p5 p6:=sb6;replace e6:IsEnumOut p6 e it ((k:Int)+1) x c1.objs.size:=e6;refine wpAny_setField_rec e6 (by simp) fun p7 e7 sb7=>?_;replace sb7:Heap.SameBut e p6 p7:=sb7;replace e7:IsEnumOut p7 e it ((k:Int)+1) x c1.objs.size:=e7;have k7:∀ b o,b≠e→p4.get? b=some o→p7.get? b=some o:=fun b o hb g=>sb7.extBut b o hb (sb6.extBut b o hb (sb5.extBut b o hb g));refine wB (wpAny_letGo (wP ⟨_,rfl,wP (q p7 e7 ?_ (k7 _ _ (Nat.ne_of_gt el) t4) fun b o hb hi g=>k7 b o hb (k4 b o hb (sb1.extBut b o hi g)))⟩));exact W.ext _ _ _ st1 (fun o g=>k7 it o (Ne.symm ne) (k4 it o (Ne.symm ne) g)) fun o g=>k7 src o (Ne.symm ns) (k4 src o (Ne.symm ns) g)
theorem tz {Q:Option Value→Shared→Prop} (W:Drw prog w it src xs J) (hh:A.handled=none) (he:IsEnum s.heap e it k old) (st:J k s.heap) (hx:xs[k]?=none) (q:∀ h',Heap.ExtBut it s.heap h'→Q none {s with heap:=h'}):wpAny (model prog w) A (pyNext (.ref e)) Q E s:=by
 have hT:s.TypeIs (.ref e) "enumerate":=⟨_,he,rfl⟩;unfold pyNext;refine wB (wpAny_attempt (wpAny_callSpecial?_slot (name:=Str.ofString "__next__") hT F.slot_enumerate_next (wpAny_call_entry F.slot_enumerate_next hT F.entry_enumerate_next ?_ (F.args_enumerate_next_1 _))));show wpAny _ _ (field (.ref e) 2>>=_) _ _ _;refine wB (wpAny_field he rfl (x:=.ref it) rfl ?_);refine wB (W.stop _ _ _ k _ hh st hx fun h' y x1 ⟨o,ho,hc⟩=>?_);exact wB (wpAny_isInstance (T:="StopIteration") (b:=true) ⟨o,ho,hc⟩ isSubtype_stop (wP (q _ x1)))
end
def tM (K:Fg) (a:Addr):It :=
  ⟨fun i H=>∃ xs x,SqT K H a xs∧xs[i]?=some x,fun i H v H'=>∃ t x,v=.ref t∧H t=none∧H'=upd H t (.tup [.int i,x])∧∀ xs,SqT K H a xs→xs[i]?=some x,fun i H=>∃ xs,SqT K H a xs∧xs.length≤i⟩
theorem lc {P:Program} {w:World} {K:Fg} {elts:List Expr} {k} {pos:Pos} (a e it:Addr) (hne:e≠it) :
 lQ P w K (.Tuple elts k pos) (tM K a) [e,it] e (fun i h=>(∃ old,IsEnum h e it i old)∧h.IsTupleIter it a i) where
 mem:=mCS
 obj:=fun i h st b hb=>by
  obtain⟨⟨old,he⟩,o,ho,c,d⟩:=st
  rcases List.mem_cons.mp hb with rfl | q
  · exact⟨_,he,fun v z=>by cases z⟩
  · cases mSg.mp q;exact⟨o,ho,fun v z=>by rw[d] at z;cases z⟩
 keep:=fun i h h' st k=>⟨let ⟨old,he⟩:=st.1;⟨old,k e (by simp) _ he⟩,st.2.at fun o ho=>k it (by simp) o ho⟩
 item:=by
  intro X hP hw hK hc i pins s σ H E I hf st hg;subst hP hw hK;obtain⟨xs,x,hq,hx⟩:=hg;obtain⟨its,rv,p,hz⟩:=I.tuple hq;obtain⟨u,hu,ru⟩:=rv.get hx;obtain⟨⟨old,he⟩,hit⟩:=st;obtain⟨e0,e1,e2,e3,e4,e5⟩:=hf e (by simp);obtain⟨f0,f1,f2,f3,f4,f5⟩:=hf it (by simp);have pT:s.heap.IsTuple a its.toArray:=p;obtain⟨oT,hoT,cT,nT,dT⟩:=id pT;have ns:a≠e:=fun z=>by rw[z,show s.heap.get? e=_ from he] at hoT;cases hoT;exact absurd (Value.type.inj cT) (by decide)
  have ni0:a≠it:=fun z=>by obtain⟨oi,hoi,ci,_⟩:=id hit;rw[z,hoi] at hoT;cases hoT;rw[ci] at cT;exact absurd (Value.type.inj cT) (by decide)
  refine tD (eg it a ni0 its.toArray) he ⟨hit,pT⟩ (x:=u) (by simpa using hu) hne (Ne.symm ns) fun h' ho jt hT hk=>?_;refine⟨_,rfl,wpAny_letOwnedTupleGo_enum (s:={s with heap:=h',toks:=s.toks+1}) ho fun h2 he2 hs2=>?_⟩;have hk2:∀ b o,b≠e→b≠it→s.heap.get? b=some o→h2.get? b=some o:=fun b o q1 q2 z=>(hs2.2 b q1).trans (hk b o q1 q2 z);have helt:e<s.heap.objs.size:=Heap.lt_size he;have hT2:=(hs2.2 _ (Nat.ne_of_gt helt)).trans hT;have hfr:H s.heap.objs.size=none:=I.hok.fresh (Nat.le_refl _);have nd:∀ {b:Addr} {o:HO},H b=some o→b≠s.heap.objs.size:=fun {b o} q z=>by rw[z,hfr] at q;cases q
  have ne:∀ {b:Addr} {o:HO},H b=some o→b≠e:=fun {b o} q z=>by rw[z,e0] at q;cases q
  have ni:∀ {b:Addr} {o:HO},H b=some o→b≠it:=fun {b o} q z=>by rw[z,f0] at q;cases q
  have nch:∀ {b:Addr},b∉[e,it]→b≠e∧b≠it:=fun {b} z=>⟨fun q=>z (by simp[q]),fun q=>z (by simp[q])⟩;have I2:Inv X pins σ (upd H s.heap.objs.size (.tup [.int i,x])) {s with heap:=h2,toks:=s.toks+1}:=by
   refine I.step (g':=s.gens) (d':=s.drawn) (ch:=[e,it]) (fun b hb=>?_) (fun b o _ _ hc z _=>hk2 b o (nch hc).1 (nch hc).2 z) (fun b o _ _ hc z _=>⟨o.slots,hk2 b o (nch hc).1 (nch hc).2 z⟩) (fun b o _ z n=>by rw[aa (Nat.ne_of_lt (Heap.lt_size z))];exact n)
    (fun b o hc z=>⟨o,hk2 b o (nch hc).1 (nch hc).2 z⟩) (fun b xs z=>by rw[aa (nd z)];exact z) (fun b o u z=>by rw[aa (nd z)];exact z) (fun b ps z=>⟨#[],by rw[aa (nd z),z];simp⟩) (fun m hm=>?_) (fun b o z=>?_) I.bare
   · rcases List.mem_cons.mp hb with rfl | q
     · exact⟨e3,e1,e4,e5⟩
     · cases mSg.mp q;exact⟨f3,f1,f4,f5⟩
   · obtain⟨o,es,ep,ho',r⟩:=hm;exact⟨o,es,ep,hk2 _ o (Ne.symm e1) (Ne.symm f1) ho',r⟩
   · by_cases hb:b=s.heap.objs.size
     · rw[hb,pG] at z;cases z;rw[hb];exact⟨gl,[.int i s.toks,u],.cons ⟨_,rfl⟩ (.cons ru .nil),⟨_,hT2,rfl,_,rfl⟩⟩
     · rw[aa hb] at z;refine (I.hok b o z).stay (fun c v hc zc=>?_) (fun c zc=>by rw[aa (nd zc)];exact zc) fun c xs zc=>by rw[aa (nd zc)];exact zc
       rcases hc with rfl | hc
       · exact hk2 _ _ (ne z) (ni z) zc
       · exact hk2 _ _ (ne hc) (ni hc) zc
  refine⟨.ref s.heap.objs.size,_,I2,rfl,⟨_,x,rfl,hfr,rfl,fun ys hy=>by rw[I.tuple_inj hy hq];exact hx⟩,⟨⟨u,by simpa using he2⟩,jt.1.at fun o ho'=>(hs2.2 it (Ne.symm hne)).trans ho'⟩,fun b hb=>?_⟩;have hbs:b<s.heap.objs.size:=by
   rcases List.mem_cons.mp hb with rfl | q
   · exact helt
   · cases mSg.mp q;obtain⟨o,ho',_⟩:=hit;exact Heap.lt_size ho'
  rw[aa (Nat.ne_of_lt hbs)];exact (hf b hb).1
 done:=by
  intro X hP hw hK hc i pins s σ H E I hf st hg;subst hP hw hK;obtain⟨xs,hq,hx⟩:=hg;obtain⟨its,rv,p,hz⟩:=I.tuple hq;obtain⟨⟨old,he⟩,hit⟩:=st;obtain⟨f0,f1,f2,f3,f4,f5⟩:=hf it (by simp);have hl:=rv.length;have pT:s.heap.IsTuple a its.toArray:=p;obtain⟨oT,hoT,cT,nT,dT⟩:=id pT;have ni0:a≠it:=fun z=>by obtain⟨oi,hoi,ci,_⟩:=id hit;rw[z,hoi] at hoT;cases hoT;rw[ci] at cT;exact absurd (Value.type.inj cT) (by decide)
  exact tz (eg it a ni0 its.toArray) (I.ok.hd hc) he ⟨hit,pT⟩ (by simp;omega) fun h' eb=>⟨rfl,I.turned (t':=s.toks) (fun b o hb z=>eb b o hb z) f0 f1 f3 f4 f5⟩
 self:=fun _ _ _ _ _ st h=>let ⟨_,he⟩:=st.1;wpAny_pyIter_enum he h
def wa (K:Fg) (ta:TA):TI:=fun σ H R=>ta σ H fun vs H1=>∃ a xs,vs=[.ref a]∧SqT K H1 a xs∧R (tM K a) H1
theorem gx:bootBuiltins "enumerate"=some (.type "enumerate"):=by decide +kernel
theorem qc {X:Cx} {elts:List Expr} {k} {tpos:Pos} {a:Expr} {ta:TA} {p pos:Pos} (hg:Gl X "enumerate") (hm:X.mg "enumerate"=none) (ha:PA X [a] ta) (hs:starEach [a] X.env=[(false,eval a X.env)]:=by rfl):PI X (.Tuple elts k tpos) (.Call (.Name "enumerate" p) [a] [] pos) (wa X.K ta):=by
 intro pins s σ H R I h;refine Call_ (dW I hg hm gx (PyProof.Rows.callWith_type1 (thn (ha pos pins s σ H _ I h) fun us s1 zz=>?_) hs rfl));obtain⟨vs,H1,I1,r1,l,xs,rfl,hq,q⟩:=zz;cases r1 with
 | cons r rr =>
  cases rr;cases r;obtain⟨its,rv,p,hz⟩:=I1.tuple hq;refine qN (show s1.heap.IsTuple l its.toArray from p) fun h' he hit hk=>wpAny_pyIter_enum he ?_;have I2:Inv X pins σ H1 {s1 with heap:=h'}:=I1.kept (t':=s1.toks) hk;refine⟨s1.heap.objs.size+1,[s1.heap.objs.size+1,s1.heap.objs.size],_,tM X.K l,H1,rfl,I2,lc l _ _ (Nat.succ_ne_self _),⟨⟨_,by simpa using he⟩,hit⟩,fun b hb=>?_,q⟩;have hb':s1.heap.objs.size≤b:=by
   rcases List.mem_cons.mp hb with rfl | z
   · exact Nat.le_succ _
   · cases mSg.mp z;exact Nat.le_refl _
  exact I1.fpOk hb' (I1.hok.fresh hb')
theorem b5.enumT {K:Fg} {a:Addr} {xs:List V} {g:TG} {tc:TT} {te:TE} {Q:VK} {σ0:St} {H1:Hp} {L:Addr} (Pv:Nat→St→Hp→Prop) (h0:Pv 0 σ0 (upd H1 L (.lst []))) (hl:∀ i σ H,i≤xs.length→Pv i σ H→SqT K H a xs)
 (hs:∀ i x σ H t,xs[i]?=some x→Pv i σ H→H t=none→g (.ref t) σ (upd H t (.tup [.int i,x])) fun σ3 H3=>tc σ3 H3 fun c H4=>if c=true then te σ3 H4 fun v H5=>∃ zs,H5 L=some (.lst zs)∧zs.length<sizeLine∧Pv (i+1) σ3 (upd H5 L (.lst (zs++[v]))) else Pv (i+1) σ3 H4)
 (hd:∀ σ H,Pv xs.length σ H→Q (.ref L) H):b5 (tM K a) g tc te Q σ0 H1 L:=by
 refine⟨fun i m σ H=>i≤xs.length∧m=xs.length-i∧Pv i σ H,⟨_,Nat.zero_le _,rfl,h0⟩,?_⟩;rintro i m σ H ⟨hi,hm,hp⟩;have l1:=hl i σ H hi hp;by_cases hlt:i<xs.length
 · refine .inr ⟨⟨xs,xs[i],l1,by simp[hlt]⟩,fun σ' H'=>Pv (i+1) σ' H',fun σ' H' q=>⟨xs.length-(i+1),by rw[hm];exact Nat.sub_succ_lt_self _ _ hlt,hlt,rfl,q⟩,?_⟩;rintro v H' ⟨t,x,rfl,ht,rfl,hx⟩;exact hs i x σ H t (hx xs l1) hp ht
 · obtain rfl:i=xs.length:=by omega
   exact .inl ⟨⟨xs,l1,Nat.le_refl _⟩,hd σ H hp⟩
end L2
namespace P10
open PySem L2
inductive Prs (K:Fg) (H:Hp):List V→List (PyData×Addr)→Prop
  | nil:Prs K H [] []
  | cons {t m:Addr} {x:V} {d:PyData} {zs:List V} {ps:List (PyData×Addr)} (h:H t=some (.tup [x,.ref m])) (td:TD K H x d) (r:Prs K H zs ps):Prs K H (.ref t::zs) ((d,m)::ps)
theorem Prs.snoc {K:Fg} {H:Hp} {zs:List V} {ps:List (PyData×Addr)} (h:Prs K H zs ps) {t m:Addr} {x:V} {d:PyData} (ht:H t=some (.tup [x,.ref m])) (td:TD K H x d):Prs K H (zs++[.ref t]) (ps++[(d,m)]):=by
 induction h with
 | nil=>exact .cons ht td .nil
 | cons a b c ih=>exact .cons a b ih
theorem Prs.app {K:Fg} {H:Hp} {zs zs':List V} {ps ps':List (PyData×Addr)} (h:Prs K H zs ps) (h':Prs K H zs' ps'):Prs K H (zs++zs') (ps++ps'):=by
 induction h with
 | nil=>exact h'
 | cons a b c ih=>exact .cons a b ih
theorem Prs.length {K:Fg} {H:Hp} {zs:List V} {ps:List (PyData×Addr)} (h:Prs K H zs ps):zs.length=ps.length:=by
 induction h with
 | nil=>rfl
 | cons a b c ih=>rw[List.length_cons,List.length_cons,ih]
theorem Prs.keep {K:Fg} {H H':Hp} {zs:List V} {ps:List (PyData×Addr)} (h:Prs K H zs ps) (e:∀ b xs,H b=some (.tup xs)→H' b=some (.tup xs)) (tk:Tk H H'):Prs K H' zs ps:=by
 induction h with
 | nil=>exact .nil
 | cons a b c ih=>exact .cons (e _ _ a) (b.tk tk) ih
theorem Prs.same {K:Fg} {H H':Hp} {zs:List V} {ps:List (PyData×Addr)} (h:Prs K H zs ps) (e:aj H H'):Prs K H' zs ps:=h.keep (fun b xs z=>e _ _ z) e.tk
theorem Prs.put {K:Fg} {H:Hp} {zs:List V} {ps:List (PyData×Addr)} (h:Prs K H zs ps) {L:Addr} {o:HO} {ys:List V} (hL:H L=some (.lst ys)):Prs K (upd H L o) zs ps :=
 h.keep (fun b xs z=>by rw[aa fun e=>by rw[e,hL] at z;cases z];exact z) (aZ (.inr ⟨_,hL⟩))
theorem Prs.last {K:Fg} {H:Hp} {zs:List V} {ps:List (PyData×Addr)} {p:PyData×Addr} (h:Prs K H zs (ps++[p])):∃ ys t x,zs=ys++[.ref t]∧Prs K H ys ps∧H t=some (.tup [x,.ref p.2])∧TD K H x p.1:=by
 induction ps generalizing zs with
 | nil=>cases h with | cons a b c=>cases c;exact⟨[],_,_,rfl,.nil,a,b⟩
 | cons e r ih =>
  cases h with
  | cons a b c =>
   obtain⟨ys,t,x,rfl,h1,h2,h3⟩:=ih c;exact⟨_::ys,t,x,rfl,.cons a b h1,h2,h3⟩
def scp (mo mi:Addr) (ks:PDs):List (PyData×Addr):=ks.mapIdx fun k x=>(x,if k+1=ks.length then mi else mo)
theorem oZ {mo mi:Addr} {ks:PDs} {k:Nat} {x:PyData} (h:ks[k]?=some x):(scp mo mi ks).take (k+1)=(scp mo mi ks).take k++[(x,if k+1=ks.length then mi else mo)]:=by
 rw[tAO];congr 1;unfold scp;rw[List.getElem?_mapIdx,h];rfl
end P10
namespace K11
open PySem L2 P10
section
variable {P:Program} {w:World} {K:Fg} {mg:SOV} {base:Heap}
abbrev sSc:Stmt:=top 10
abbrev nSc:List Str:=["e","outer","inner","children","last"]
inductive uo (K:Fg) (vs:List V) (H:Hp) (Q:VK):Prop
  | mk (v:V) (mo mi:Addr) (d:PyData) (h:Str) (sl:List Str) (ps:PDs) (g0_:vs=[v,.ref mo,.ref mi]) (g1_:TD K H v d) (g2_:Nd d h sl ps) (g3_:∀ L zs H',aj H H'→H L=none→H' L=some (.lst zs)→Prs K H' zs (scp mo mi (ai d))→Q (.ref L) H'):uo K vs H Q
def xA (K:Fg):Sp:=fun vs H Q _=>uo K vs H Q
theorem y3:ax nSc ["e","outer","inner"] (a9 sSc):=fsM
theorem zF:(["number","child","inner","outer","last"]:List Str).Nodup:=by decide +kernel
theorem yW (D:Def K mg "scoped_children" sSc) (T:Blt mg) (hen:mg "enumerate"=none) (c9:Fn P w K mg base "children_of" 1 ["e"] (rZ K)):Fn P w K mg base "scoped_children" 2 ["e","outer","inner"] (xA K):=by
 refine D.fn y3 (fun vs H Q E h=>?_) (fun _ _ _ _ _ _ us hl=>by obtain⟨a,b,c,rfl⟩:=gs hl;rfl) (fun f cdv A outer s' H vs Q E hr h=>?_)
 · obtain⟨v,mo,mi,d,h,sl,ps,rfl,_⟩:=h;rfl
 · obtain⟨v,mo,mi,d,h,sl,ps,rfl,td,ndd,q⟩:=h;have nd:=y3.nd;have hz0:(1000000:Nat)<sizeLine:=by decide
   refine⟨_,(pE (pN (i:=3) nd rfl (Or.inl rfl) (ac c9 (hr.mono (by decide)) rfl (pA (pv 0) pC)))
 (pE (pN (i:=4) nd rfl (Or.inr rfl) (aC bX (be T.len (pA (pv 3) pC)) pH))
 (pI (au (eE (own:=["number","child"]) (outs:=[(2,"inner"),(1,"outer"),(4,"last")]) (g:=Am K 2 (qF (gg 0) (qF (gg 1) An))) rfl (aL.of (a9 sSc) nSc) (qc rfl hen (pA (pv 3) pC)) (fun _ _ _ _=>⟨(eP (n:=2) rfl (bg (ao (i:=0) zF rfl (Or.inl rfl) (Or.inr rfl)) (bg (ao (i:=1) zF rfl (Or.inl rfl) (Or.inr rfl)) dl))),c6,(az (pA (pv 1) (pA (fz (pO aT (pv 0) (pv 4) (pP _)) (pv 2) (pv 3)) pC)))⟩)))))),?_⟩
   dsimp only[bC,bH,bG];refine a7 fun rG iu=>?_;refine⟨_,rfl,v,d,h,sl,ps,rfl,td,ndd,fun v1 H1 k1 t1=>?_⟩;rw[← ndd.kids] at t1;obtain⟨c,ws,rfl,hc,hws⟩:=t1.tup_of;refine iu _ _ (a7 fun nM ig=>?_);refine⟨_,rfl,c,ws,rfl,.inr hc,_,_,rfl,rfl,?_⟩;refine ig _ _ ?_;rw[gP,cn];refine⟨_,rfl,c,ws,rfl,hc,fun L hL=>?_⟩;have hwl:=hws.length;have hH:H L=none:=by
    cases e:H L with
    | none=>rfl
    | some o=>rw[k1 _ _ e] at hL;cases hL
   refine b5.enumT (xs:=ws) (fun i σ Hi=>aj H1 Hi∧(∃ zs,Hi L=some (.lst zs)∧Prs K Hi zs ((scp mo mi (ai d)).take i))∧∃ x0 x1,σ=[x0,x1,some (.ref mi),some (.ref mo),some (.int ((ws.length:Nat)-1))]) ⟨smu hL,⟨[],pG,.nil⟩,_,_,rfl⟩ (fun i σ Hi _ z=>z.1.seqT hc) ?_ ?_
   · rintro i x σ Hi t hxi ⟨sm,⟨zs,hLi,hzs⟩,x0,x1,rfl⟩ ht;obtain⟨dx,hdx,tdx⟩:=hws.get hxi;have k3:=smu (o:=HO.tup [V.int ((i:Nat):Int),x]) ht;refine⟨t,_,rfl,SqT.of pG,rfl,_,_,rfl,_,_,rfl,rfl,?_⟩;generalize upd Hi t (.tup [V.int ((i:Nat):Int),x])=H3 at k3 ⊢;have sm3:=sm.trans k3;rw[dN];refine bj ?_;refine⟨_,rfl,_,rfl,_,rfl,rfl,_,rfl,?_⟩;have done:∀ m,m=(if i+1=(ai d).length then mi else mo)→(2≤sizeLine∧∀ p,H3 p=none→∃ zs',(upd H3 p (.tup [x,.ref m])) L=some (.lst zs')∧zs'.length<sizeLine∧(aj H1 (upd (upd H3 p (.tup [x,.ref m])) L (.lst (zs'++[.ref p])))∧(∃ zs,(upd (upd H3 p (.tup [x,.ref m])) L (.lst (zs'++[.ref p]))) L=some (.lst zs)∧Prs K (upd (upd H3 p (.tup [x,.ref m])) L (.lst (zs'++[.ref p]))) zs ((scp mo mi (ai d)).take (i+1))))):=by
      rintro m rfl;refine⟨by decide,fun p hp=>?_⟩;have k4:=smu (o:=HO.tup [x,.ref (if i+1=(ai d).length then mi else mo)]) hp;have hp4:(upd H3 p (.tup [x,.ref (if i+1=(ai d).length then mi else mo)])) p=some (.tup [x,.ref (if i+1=(ai d).length then mi else mo)]):=pG;generalize upd H3 p (.tup [x,.ref (if i+1=(ai d).length then mi else mo)])=H4 at k4 hp4 ⊢;have hL4:=k4 _ _ (k3 _ _ hLi);have hzl:=hzs.length;have hf:=ndd.few;rw[← ndd.kids] at hf;have hlt:=(gES.mp hdx).1;rw[lTk] at hzl;refine⟨zs,hL4,by omega,aD (sm3.trans k4) hL,_,pG,?_⟩;rw[oZ hdx];have z5:=(hzs.same (k3.trans k4)).snoc hp4 (tdx.same (sm3.trans k4));exact z5.put hL4
     by_cases hlast:i+1=(ai d).length
     · refine pL (by simp;omega) ?_;obtain⟨z1,z2⟩:=done mi (by rw[if_pos hlast]);exact⟨_,rfl,z1,fun p hp=>by obtain⟨zs',a,b,c,d'⟩:=z2 p hp;exact⟨zs',a,b,c,d',_,_,rfl⟩⟩
     · refine pK (by simp;omega) ?_;obtain⟨z1,z2⟩:=done mo (by rw[if_neg hlast]);exact⟨_,rfl,z1,fun p hp=>by obtain⟨zs',a,b,c,d'⟩:=z2 p hp;exact⟨zs',a,b,c,d',_,_,rfl⟩⟩
   · rintro σ Hi ⟨sm,⟨zs,hLi,hzs⟩,x0,x1,rfl⟩;rw[hwl,show (ai d).length=(scp mo mi (ai d)).length by unfold scp;rw[List.length_mapIdx],List.take_length] at hzs;exact q L zs Hi (k1.trans sm) hH hLi hzs
end
end K11
namespace L2
@[simp] theorem Ba {K:Fg} {xs:List V} {H:Hp} {Q:VK}:vy K xs H Q=∃ p ys,xs=[.ref p]∧(SqL K H p ys∨SqT K H p ys)∧Q (.int ys.length) H:=propext ⟨fun h=>by obtain⟨p,ys,a,b,c⟩:=h;exact⟨p,ys,a,b,c⟩,fun h=>by obtain⟨p,ys,a,b,c⟩:=h;exact⟨p,ys,a,b,c⟩⟩
end L2
namespace K11
open PySem L2 P10
section
variable {P:Program} {w:World} {K:Fg} {mg:SOV} {base:Heap}
abbrev gN:Stmt:=top 15
inductive mS (K:Fg) (vs:List V) (H:Hp) (Q:VK):Prop
  | mk (a:Addr) (ns:List Int) (k many:Int) (g0_:vs=[.ref a,.int k,.int many]) (g1_:SqL K H a (ns.map V.int)) (g2_:ns.length≤63) (g3_:0≤k) (g4_:k≤1000000) (g5_:0<many) (g6_:∀ r,0≤r→r<many→Q (.int r) H):mS K vs H Q
def oV (K:Fg):Sp:=fun vs H Q _=>mS K vs H Q
theorem pe:ax ["_law_script","_law_k","_law_many","_law_cell","_law_left","_law_j","_law_seed"] ["_law_script","_law_k","_law_many"] (a9 gN):=fsM
theorem lw (x m:Int) (h:0<m):0≤x % m∧x % m<m:=⟨Int.emod_nonneg x (by lia),Int.emod_lt_of_pos x h⟩
theorem sO (D:Def K mg "_law_draw" gN) (T:Blt mg):Fn P w K mg base "_law_draw" 1 ["_law_script","_law_k","_law_many"] (oV K):=by
 refine D.fn pe (fun vs H Q E h=>?_) (fun _ _ _ _ _ _ us hl=>by obtain⟨a,b,c,rfl⟩:=gs hl;rfl) (fun f cdv A outer s H vs Q E hr h=>?_)
 · obtain⟨a,ns,k,many,rfl,_⟩:=h;rfl
 · obtain⟨a,ns,k,many,rfl,hS,hlen,k0,k1,hm,q⟩:=h;have nd:=pe.nd;obtain⟨t4,h4,q4⟩:∃ t,PSs (cE CX0 P w K mg base ["_law_script","_law_k","_law_many","_law_cell","_law_left","_law_j","_law_seed"] "_law_draw" (a9 gN) f cdv A outer s H E).nox ((aQ gN).drop 3) t ∧
    ∀ (c:Int) (l j:Option V),t {nx:=fun _ H'=>Q .non H',rt:=Q} [some (.ref a),some (.int k),some (.int many),some (.int c),l,j,none] H:=by
    refine⟨_,(pE (pN (i:=6) nd rfl (Or.inl rfl) (aC bY (aC bY (aC dq (pv 3) pH) (aC jq (aC jq pH (pv 1)) (pv 1))) pH))
      (pI (au (aC dq (aC dq (aC jq (aC dq (aC jq (pv 6) pH) pH) pH) pH) (pv 2))))),fun c l j=>?_⟩
    simp;exact⟨.inl ⟨by decide,by decide⟩,.inr ⟨by lia,(by lia)⟩,.inr ⟨by decide,by decide⟩,.inr ⟨by decide,by decide⟩,hm,q _ (lw _ _ hm).1 (lw _ _ hm).2⟩
   obtain⟨t2,h2,q2⟩:∃ t,PSs (cE CX0 P w K mg base ["_law_script","_law_k","_law_many","_law_cell","_law_left","_law_j","_law_seed"] "_law_draw" (a9 gN) f cdv A outer s H E).nox ((aQ gN).drop 1) t ∧
    ∀ (c:Int),(10 ^ 18≤c→0<ns.length)→t {nx:=fun _ H'=>Q .non H',rt:=Q} [some (.ref a),some (.int k),some (.int many),some (.int c),none,none,none] H:=by
    refine⟨_,(pE (pN (i:=4) nd rfl (Or.inl rfl) (pv 3))
 (pE (aN (pO tZ (pv 3) (aC qg pH pH) (pP _)) (pE (bx PassesOwn.never rfl (bL rfl T.range (pA (aC dq (aC jr (pv 1) (be T.len (pA (pv 0) pC))) pH) pC)) (ao (i:=5) nd rfl (Or.inl rfl))
 (pI (pN (i:=4) nd rfl (Or.inl rfl) (aC jr (pv 4) pH))))
 (pI (aN (pO iQ (pv 4) pH (pP _)) (pI (au (aC dq (aC dq (aC jr (pv 4) pH) pH) (pv 2)))) aF))) aF) h4)),fun c hc=>?_⟩
    simp;refine⟨⟨by decide,by decide,by decide⟩,?_⟩;by_cases h:c<1000000000000000000
    · exact .inl ⟨h,q4 c _ _⟩
    have hn:0<ns.length:=hc (by lia);have hb:=lw (k / ((ns.map V.int).length:Int)) 60 (by decide);refine .inr ⟨by lia,_,.inl hS,⟨by rw[lMp];lia,by rw[lMp];lia⟩,by lia,by lia,?_⟩;refine aA.by bv (fun _ σ H2=>H2=H∧∃ (l:Int) (j:Option V),σ=[some (.ref a),some (.int k),some (.int many),some (.int c),some (.int l),j,none]) ⟨rfl,c,_,rfl⟩ (fun _ _ _ _ _=>trivial) ?_ ?_
    · rintro i x σ H2 hx ⟨rfl,l,j,rfl⟩;simp;exact⟨by decide,by decide⟩
    · rintro σ H2 ⟨rfl,l,j,rfl⟩;simp;by_cases h:0<l
      · exact .inr ⟨h,⟨by decide,by decide⟩,hm,q _ (lw _ _ hm).1 (lw _ _ hm).2⟩
      · exact .inl ⟨by lia,q4 c _ _⟩
   refine⟨_,(pE (pN (i:=3) nd rfl (Or.inl rfl) (fz (pO iQ (be T.len (pA (pv 0) pC)) pH (pP _)) (am aG (pv 0) (aC dq (pv 1) (be T.len (pA (pv 0) pC))) (fun _ _=>rfl)) pH)) h2),?_⟩;simp;refine⟨_,.inl hS,?_⟩;simp;by_cases hn:ns=[]
   · exact .inl ⟨hn,q2 0 fun z=>absurd z (by decide)⟩
   · have hl:0<ns.length:=List.length_pos_iff.mpr hn;have hb:=lw k (ns.length:Int) (by lia);obtain⟨i,hi⟩:=Int.eq_ofNat_of_zero_le hb.1;have hi':i<ns.length:=by lia
     refine .inr ⟨hl,_,.inl hS,by simpa using hl,_,hS,V.int ns[i],?_,q2 _ fun _=>hl⟩;rw[lMp,hi];exact pJ (by simp[hi'])
def StV (H:Hp) (s:Addr) (n:Nat) (m:Str→Option V):Prop:=∃ kvs:List (Key×V),H s=some (.dK kvs)∧kvs.length≤n∧∀ k:Str,bi kvs (.inr k)=m k
def aH (m:Str→Option V) (k:Str) (v:V):Str→Option V:=fun x=>if x=k then some v else m x
theorem bn (m:Str→Option V) (k:Str) (v:V):aH m k v k=some v:=if_pos rfl
theorem ah (m:Str→Option V) {k x:Str} (v:V) (h:x≠k:=by decide +kernel):aH m k v x=m x:=if_neg h
theorem pV {kvs:List (Key×V)} {k:Key} {u:V} (v:V) (h:bi kvs k=some u):(bW kvs k v).length=kvs.length:=by
 unfold bW;rw[dM,h];simp
theorem StV.get {H:Hp} {s:Addr} {n:Nat} {m:Str→Option V} (h:StV H s n m) {k:Str} {v:V} (e:m k=some v):bO H s (.str k) (some v):=by
 obtain⟨kvs,h1,h2,h3⟩:=h;rw[← e,← h3 k];exact bO.k (k:=.inr k) h1
theorem StV.put {H:Hp} {s:Addr} {n:Nat} {m:Str→Option V} (h:StV H s n m) {k:Str} {u:V} (e:m k=some u) (v:V) (hn:n≤1000):∃ H',dI H s (.str k) v H'∧(∀ b,b≠s→H' b=H b)∧StV H' s n (aH m k v):=by
 obtain⟨kvs,h1,h2,h3⟩:=h;have hz:(1000:Nat)<sizeLine:=by decide
 refine⟨_,dI.k (k:=.inr k) h1 (by lia),fun b hb=>aa hb,_,pG,?_,fun x=>?_⟩
 · rw[pV v (by rw[h3 k,e])];exact h2
 · rw[dL,h3 x];unfold aH;by_cases hx:x=k
   · rw[if_pos hx,if_pos (by rw[hx])]
   · rw[if_neg hx,if_neg (by simpa using hx)]
theorem StV.new {H:Hp} {s:Addr} {n:Nat} {m:Str→Option V} (h:StV H s n m) (k:Str) (v:V) (hn:n≤1000):∃ H',dI H s (.str k) v H'∧(∀ b,b≠s→H' b=H b)∧StV H' s (n+1) (aH m k v):=by
 obtain⟨kvs,h1,h2,h3⟩:=h;have hz:(1000:Nat)<sizeLine:=by decide
 refine⟨_,dI.k (k:=.inr k) h1 (by lia),fun b hb=>aa hb,_,pG,?_,fun x=>?_⟩
 · have:=bt kvs (.inr k) v;lia
 · rw[dL,h3 x];unfold aH;by_cases hx:x=k
   · rw[if_pos hx,if_pos (by rw[hx])]
   · rw[if_neg hx,if_neg (by simpa using hx)]
abbrev sPk:Stmt:=top 16
def Mo (H:Hp) (s:Addr) (H':Hp):Prop:=∀ b,b≠s→H' b=H b
inductive ut (K:Fg) (vs:List V) (H:Hp) (Q:VK):Prop
  | mk (s a:Addr) (n:Nat) (m:Str→Option V) (ns:List Int) (k many:Int) (g0_:vs=[.ref s,.int many]) (g1_:StV H s n m) (g2_:n≤1000) (g3_:m "script"=some (.ref a)) (g4_:a≠s) (g5_:SqL K H a (ns.map V.int)) (g6_:ns.length≤63) (g7_:m "k"=some (.int k)) (g8_:0≤k) (g9_:k<1000000) (g10_:0<many) (g11_:∀ r H',0≤r→r<many→Mo H s H'→StV H' s n (aH m "k" (.int (k+1)))→Q (.int r) H'):ut K vs H Q
def iw (K:Fg):Sp:=fun vs H Q _=>ut K vs H Q
theorem ya:ax ["_law_state","_law_many"] ["_law_state","_law_many"] (a9 sPk):=fsM
theorem SqL.mo {K:Fg} {H H':Hp} {s a:Addr} {xs:List V} (h:SqL K H a xs) (hm:Mo H s H') (ne:a≠s):SqL K H' a xs:=by
 rcases h with (h | ⟨o,h⟩) | h
 · exact .inl (.inl (by rw[hm a ne];exact h))
 · exact .inl (.inr ⟨o,by rw[hm a ne];exact h⟩)
 · exact .inr h
theorem z8 (D:Def K mg "_law_pick" sPk) (T:Blt mg) (lY:Fn P w K mg base "_law_draw" 1 ["_law_script","_law_k","_law_many"] (oV K)):Fn P w K mg base "_law_pick" 2 ["_law_state","_law_many"] (iw K):=by
 refine D.fn ya (fun vs H Q E h=>?_) (fun _ _ _ _ _ _ us hl=>by obtain⟨a,b,rfl⟩:=fW hl;rfl) (fun f cdv A outer s' H vs Q E hr h=>?_)
 · obtain⟨s,a,n,m,ns,k,many,rfl,_⟩:=h;rfl
 · obtain⟨s,a,n,m,ns,k,many,rfl,st,hn,hs,hne,hS,hlen,hk,k0,k1,hm,q⟩:=h;have nd:=ya.nd;have hu:(A.deeper (PyProof.Rows.envOfC "_law_pick" (a9 sPk) s'.heap.objs.size f cdv)).units+1<cLine:=bS hr;refine⟨_,(pE (b7 hu (pv 0) pD (aC bY (pM hu (pv 0) pD (fun _ _=>rfl)) pH) rfl)
 (pI (au (ac lY (hr.mono (by decide)) rfl (pA (pM hu (pv 0) pD (fun _ _=>rfl)) (pA (pM hu (pv 0) pD (fun _ _=>rfl)) (pA (pv 1) pC))))))),?_⟩
   obtain⟨H',hp,hmo,st'⟩:=st.put hk (.int (k+1)) hn;refine⟨_,rfl,s,_,rfl,st.get hk,_,_,rfl,rfl,_,rfl,s,H',rfl,hp,?_⟩;refine⟨_,rfl,s,_,rfl,st'.get (k:="script") (v:=.ref a) (by rw[ah _ _ (by decide +kernel)];exact hs),_,rfl,s,_,rfl,st'.get (bn _ _ _),_,rfl,?_⟩;exact⟨a,ns,k+1,many,rfl,SqL.mo hS hmo hne,hlen,(by lia),by lia,hm,fun r r0 r1=>q r H' r0 r1 hmo st'⟩
end
def Smf (f:Addr) (H H':Hp):Prop:=∀ b o,b≠f→H b=some o→H' b=some o
theorem Smf.of {f:Addr} {H H':Hp} (s:aj H H'):Smf f H H':=fun b o _ e=>s b o e
theorem Smf.mo {f:Addr} {H H':Hp} (m:Mo H f H'):Smf f H H':=fun b o hb e=>by rw[m b hb];exact e
theorem Smf.trans {f:Addr} {H H1 H2:Hp} (a:Smf f H H1) (b:Smf f H1 H2):Smf f H H2:=fun c o hc e=>b c o hc (a c o hc e)
theorem StV.same {H H':Hp} {s:Addr} {n:Nat} {m:Str→Option V} (h:StV H s n m) (k:aj H H'):StV H' s n m:=by
 obtain⟨kvs,h1,h2⟩:=h;exact⟨kvs,k _ _ h1,h2⟩
theorem StV.smf {H H':Hp} {s f:Addr} {n:Nat} {m:Str→Option V} (h:StV H s n m) (k:Smf f H H') (ne:s≠f):StV H' s n m:=by
 obtain⟨kvs,h1,h2⟩:=h;exact⟨kvs,k _ _ ne h1,h2⟩
theorem StV.ne {H:Hp} {s L:Addr} {n:Nat} {m:Str→Option V} (h:StV H s n m) (hL:H L=none):L≠s:=fun e=>by
 obtain⟨kvs,h1,_⟩:=h;rw[e,h1] at hL;cases hL
def nms:List Str:=["a","ab","abc","x","y","thing","back","zzzzzzzz"]
section
variable {P:Program} {w:World} {K:Fg} {mg:SOV} {base:Heap}
structure Pk (K:Fg) (H:Hp) (s:Addr) (n:Nat) (m:Str→Option V) (a:Addr) (ns:List Int) (k:Int):Prop where
  st:StV H s n m
  hn:n≤1000
  sc:m "script"=some (.ref a)
  ne:a≠s
  sq:SqL K H a (ns.map V.int)
  len:ns.length≤63
  hk:m "k"=some (.int k)
  k0:0≤k
theorem Pk.same {H H':Hp} {s a:Addr} {n:Nat} {m:Str→Option V} {ns:List Int} {k:Int} (p:Pk K H s n m a ns k) (e:aj H H'):Pk K H' s n m a ns k:=⟨p.st.same e,p.hn,p.sc,p.ne,e.seq p.sq,p.len,p.hk,p.k0⟩
theorem Pk.next {H H':Hp} {s a:Addr} {n:Nat} {m:Str→Option V} {ns:List Int} {k:Int} (p:Pk K H s n m a ns k) (hm:Mo H s H') (st:StV H' s n (aH m "k" (.int (k+1)))):Pk K H' s n (aH m "k" (.int (k+1))) a ns (k+1) :=
 ⟨st,p.hn,by rw[ah _ _ (by decide +kernel)];exact p.sc,p.ne,SqL.mo p.sq hm p.ne,p.len,bn _ _ _,by have:=p.k0;lia⟩
theorem bR (m:Str→Option V) (k:Str) (v u:V):aH (aH m k v) k u=aH m k u:=by
 funext x
 unfold aH;by_cases h:x=k
 · rw[if_pos h,if_pos h]
 · rw[if_neg h,if_neg h,if_neg h]
theorem gD {H:Hp} {s a:Addr} {n:Nat} {m:Str→Option V} {ns:List Int} {k many:Int} {Q:VK} {E:XK} (p:Pk K H s n m a ns k) (hk:k<1000000) (hm:0<many) (q:∀ r H',0≤r→r<many→Mo H s H'→Pk K H' s n (aH m "k" (.int (k+1))) a ns (k+1)→Q (.int r) H'):iw K [.ref s,.int many] H Q E :=
 ⟨s,a,n,m,ns,k,many,rfl,p.st,p.hn,p.sc,p.ne,p.sq,p.len,p.hk,p.k0,hk,hm,fun r H' r0 r1 mo st=>q r H' r0 r1 mo (p.next mo st)⟩
abbrev sNm:Stmt:=top 17
inductive uu (K:Fg) (vs:List V) (H:Hp) (Q:VK):Prop
  | mk (s a:Addr) (n:Nat) (m:Str→Option V) (ns:List Int) (k:Int) (g0_:vs=[.ref s]) (g1_:Pk K H s n m a ns k) (g2_:k+2<1000000) (g3_:∀ z H',z∈nms→Smf s H H'→Pk K H' s n (aH m "k" (.int (k+2))) a ns (k+2)→Q (.str z) H'):uu K vs H Q
def vi (K:Fg):Sp:=fun vs H Q _=>uu K vs H Q
theorem yb:ax ["_law_state","_law_names"] ["_law_state"] (a9 sNm):=fsM
theorem z9 (D:Def K mg "_law_name" sNm) (T:Blt mg) (ab:Fn P w K mg base "_law_pick" 2 ["_law_state","_law_many"] (iw K)):Fn P w K mg base "_law_name" 3 ["_law_state"] (vi K):=by
 refine D.fn yb (fun vs H Q E h=>?_) (fun _ _ _ _ _ _ us hl=>by obtain⟨a,rfl⟩:=eo hl;rfl) (fun f cdv A outer s' H vs Q E hr h=>?_)
 · obtain⟨s,a,n,m,ns,k,rfl,_⟩:=h;rfl
 · obtain⟨s,a,n,m,ns,k,rfl,p,hk,q⟩:=h;have nd:=yb.nd;refine⟨_,(pE (pN (i:=1) nd rfl (Or.inl rfl) (ag (pA pD (pA pD (pA pD (pA pD (pA pD (pA pD (pA pD (pA pD pC))))))))))
 (pI (au (am aG (pv 1) (ac ab (hr.mono (by decide)) rfl (pA (pv 0) (pA (am aG (ag (pA pH (pA pH (pA pH pC)))) (ac ab (hr.mono (by decide)) rfl (pA (pv 0) (pA pH pC))) (fun _ _=>rfl)) pC))) (fun _ _=>rfl))))),?_⟩
   dsimp only[bC,bH,bG];refine⟨Df,fun L hL=>?_⟩;have k1:=smu (o:=HO.lst (nms.map V.str)) hL;have g1:upd H L (.lst [V.str "a",V.str "ab",V.str "abc",V.str "x",V.str "y",V.str "thing",V.str "back",V.str "zzzzzzzz"])=upd H L (.lst (nms.map V.str)):=rfl;rw[g1];have hL1:(upd H L (.lst (nms.map V.str))) L=some (.lst (nms.map V.str)):=pG;have Ls:=p.st.ne hL;generalize upd H L (.lst (nms.map V.str))=H1 at k1 hL1 ⊢;have p1:=p.same k1;refine⟨_,rfl,_,rfl,eB,fun M hM=>?_⟩;have k2:=smu (o:=HO.lst [V.int 3,V.int 5,V.int 8]) hM;have hM2:(upd H1 M (.lst [V.int 3,V.int 5,V.int 8])) M=some (.lst [V.int 3,V.int 5,V.int 8]):=pG;have Ms:=p1.st.ne hM;have hL2:=k2 _ _ hL1;generalize upd H1 M (.lst [V.int 3,V.int 5,V.int 8])=H2 at k2 hM2 hL2 ⊢;have p2:=p1.same k2;refine⟨_,rfl,s,a,n,m,ns,k,3,rfl,p2.st,p2.hn,p2.sc,p2.ne,p2.sq,p2.len,p2.hk,p2.k0,(by lia),by decide,fun r H3 r0 r1 mo st3=>?_⟩;have p3:=p2.next mo st3;obtain⟨i,rfl⟩:=Int.eq_ofNat_of_zero_le r0;obtain⟨c,hc,hc8⟩:∃ c:Nat,([V.int 3,V.int 5,V.int 8]:List V)[i]?=some (.int ((c:Nat):Int))∧0<c∧c≤8:=by
    have hi:i<3:=(by lia)
    match i,hi with
    | 0,_=>exact⟨3,rfl,by decide,by decide⟩
    | 1,_=>exact⟨5,rfl,by decide,by decide⟩
    | 2,_=>exact⟨8,rfl,by decide,by decide⟩
   refine⟨M,_,_,_,rfl,rfl,SqL.of (by rw[mo M Ms];exact hM2),pJ hc,s,a,n,_,ns,k+1,_,rfl,p3.st,p3.hn,p3.sc,p3.ne,p3.sq,p3.len,p3.hk,p3.k0,(by lia),by lia,fun r' H4 r0' r1' mo' st4=>?_⟩;have p4:=p3.next mo' st4;obtain⟨j,rfl⟩:=Int.eq_ofNat_of_zero_le r0';have hj:j<nms.length:=by have:nms.length=8:=rfl;lia
   refine⟨L,_,_,.str nms[j],rfl,rfl,SqL.of (by rw[mo' L Ls,mo L Ls];exact hL2),pJ (by rw[gEM,gEE hj];rfl),?_⟩;rw[bR,show k+1+1=k+2 by lia] at p4;exact q _ _ (List.getElem_mem hj) (((Smf.of (k1.trans k2)).trans (Smf.mo mo)).trans (Smf.mo mo')) p4
abbrev sLy:Stmt:=top 23
inductive uz (K:Fg) (vs:List V) (H:Hp) (Q:VK):Prop
  | mk (s L ro r:Addr) (n:Nat) (m:Str→Option V) (p:Nat) (rs:List Addr) (ws zs:List Str) (g0_:vs=[.ref s,.ref L]) (g1_:StV H s n m) (g2_:m "rows"=some (.ref ro)) (g3_:m "part"=some (.int ((p:Nat):Int))) (g4_:H ro=some (.lst (rs.map V.ref))) (g5_:rs[p]?=some r) (g6_:H r=some (.lst (ws.map V.str))) (g7_:H L=some (.lst (zs.map V.str))) (g8_:L≠r) (g9_:ws.length+zs.length<1000000) (g10_:Q (.int (((ws++zs).length:Nat)-(1:Int))) (upd H r (.lst ((ws++zs).map V.str)))):uz K vs H Q
def rX (K:Fg):Sp:=fun vs H Q _=>uz K vs H Q
theorem yg:ax ["_law_state","_law_words","_law_row","_law_word"] ["_law_state","_law_words"] (a9 sLy):=fsM
theorem uV {H:Hp} {a:Addr} {o:HO} (h:H a=some o):upd H a o=H:=by
 funext b
 by_cases hb:b=a
 · rw[hb,pG,h]
 · rw[aa hb]
theorem zi (D:Def K mg "_law_lay" sLy) (T:Blt mg):Fn P w K mg base "_law_lay" 1 ["_law_state","_law_words"] (rX K):=by
 refine D.fn yg (fun vs H Q E h=>?_) (fun _ _ _ _ _ _ us hl=>by obtain⟨a,b,rfl⟩:=fW hl;rfl) (fun f cdv A outer s' H vs Q E hr h=>?_)
 · obtain⟨s,L,ro,r,n,m,p,rs,ws,zs,rfl,_⟩:=h;rfl
 · obtain⟨s,L,ro,r,n,m,p,rs,ws,zs,rfl,st,hro,hp,hR,hr',hW,hL,Lr,hz,q⟩:=h;have nd:=yg.nd;have hz0:(1000000:Nat)<sizeLine:=by decide
   have hu:=bS hr;refine⟨_,(pE (pN (i:=2) nd rfl (Or.inl rfl) (am aG (pM hu (pv 0) pD (fun _ _=>rfl)) (pM hu (pv 0) pD (fun _ _=>rfl)) (fun _ _=>rfl)))
 (pE (bx PassesOwn.never rfl (bq (pv 1)) (ao (i:=3) nd rfl (Or.inl rfl))
 (pI (ak (aV (pv 2) (pA (pv 3) pC)))))
 (pI (au (aC bX (be T.len (pA (pv 2) pC)) pH))))),?_⟩
   dsimp only[bC,bH,bG];refine a7 fun D9 Ah=>?_;refine⟨_,rfl,s,_,rfl,st.get hro,_,rfl,s,_,rfl,st.get hp,ro,_,_,.ref r,rfl,rfl,SqL.of hR,pJ (by rw[gEM,hr'];rfl),?_⟩;refine Ah _ _ (a7 fun D8 Ag=>?_);refine⟨_,rfl,L,rfl,⟨_,SqL.of hL⟩,?_⟩;show aA _ _ _ _ _ _;refine aA.byN (aK (xs:=zs.map V.str)) (fun i σ Hi=>Hi=upd H r (.lst ((ws++zs.take i).map V.str))∧∃ x3,σ=[some (.ref s),some (.ref L),some (.ref r),x3])
    ⟨by rw[List.take_zero,List.append_nil,uV hW],_,rfl⟩ (fun i σ Hi _ z=>SqL.of (by rw[z.1,aa Lr];exact hL)) ?_ ?_
   · rintro i x σ Hi D6 B_ Ae hB_ hx ⟨rfl,x3,rfl⟩;rw[gEM] at hx;obtain⟨z,hz',rfl⟩:=oMS.mp hx;have hi:i<zs.length:=(gES.mp hz').1;refine⟨_,rfl,.inl ⟨rfl,_,SqL.of pG⟩,_,rfl,r,_,_,rfl,rfl,pG,?_,?_⟩
     · rw[lMp,lAp,lTk];lia
     · refine Ae _ _ ?_;refine⟨?_,_,rfl⟩;rw[ma,tAO,hz'];simp
   · rintro σ Hi ⟨rfl,x3,rfl⟩;refine Ag _ _ ?_;rw[lMp,List.take_length];refine⟨_,rfl,r,_,rfl,.inl (SqL.of pG),_,_,rfl,rfl,?_⟩;rw[lMp];exact q
end
section
variable {P:Program} {w:World} {K:Fg} {mg:SOV} {base:Heap}
abbrev sTl:Stmt:=top 24
inductive uj (K:Fg) (vs:List V) (H:Hp) (Q:VK):Prop
  | mk (s th:Addr) (n:Nat) (m:Str→Option V) (p at':Int) (x:V) (tkv:List (List Key×V)) (g0_:vs=[.ref s,.int at',x]) (g1_:StV H s n m) (g2_:m "things"=some (.ref th)) (g3_:m "part"=some (.int p)) (g4_:H th=some (.dT tkv)) (g5_:tkv.length<1000000) (g6_:∀ (H':Hp) (tkv':List (List Key×V)),Smf th H H'→H' th=some (.dT tkv')→tkv'.length≤tkv.length+1→Q .non H'):uj K vs H Q
def vh (K:Fg):Sp:=fun vs H Q _=>uj K vs H Q
theorem B0:ax ["_law_state","_law_at","_law_thing"] ["_law_state","_law_at","_law_thing"] (a9 sTl):=fsM
theorem yS (D:Def K mg "_law_tell" sTl):Fn P w K mg base "_law_tell" 1 ["_law_state","_law_at","_law_thing"] (vh K):=by
 refine D.fn B0 (fun vs H Q E h=>?_) (fun _ _ _ _ _ _ us hl=>by obtain⟨a,b,c,rfl⟩:=gs hl;rfl) (fun f cdv A outer s' H vs Q E hr h=>?_)
 · obtain⟨s,th,n,m,p,at',x,tkv,rfl,_⟩:=h;rfl
 · obtain⟨s,th,n,m,p,at',x,tkv,rfl,st,hth,hp,hT,hz,q⟩:=h;have hu:=bS hr;have hz0:(1000000:Nat)<sizeLine:=by decide
   refine⟨_,(pI (b7 hu (pM hu (pv 0) pD (fun _ _=>rfl)) (az (pA (pM hu (pv 0) pD (fun _ _=>rfl)) (pA (pv 1) pC))) (pv 2) rfl)),?_⟩;refine⟨_,rfl,_,rfl,s,_,rfl,st.get hth,_,rfl,s,_,rfl,st.get hp,_,rfl,gl,fun t ht=>?_⟩;have k1:=smu (o:=HO.tup [V.int p,V.int at']) ht;have ht1:(upd H t (.tup [V.int p,V.int at'])) t=some (.tup ([Sum.inl p,Sum.inl at'].map kV)):=pG;generalize upd H t (.tup [V.int p,V.int at'])=H1 at k1 ht1 ⊢;have hT1:=k1 _ _ hT;refine⟨th,_,rfl,dI.t hT1 ht1 (by lia),?_⟩;exact q _ _ ((Smf.of k1).trans fun b o hb e=>by rw[aa hb];exact e) pG (bt _ _ _)
end
theorem bp (n:Nat):(L2.cD 0 n).length=n:=by simp[L2.cD]
theorem Smf.put {f L:Addr} {H H2:Hp} {o:HO} (s:Smf f H H2) (h:H L=none):Smf f H (upd H2 L o):=fun b u hb e=>by
 rw[aa (bF e h)];exact s b u hb e
theorem Smf.none {f b:Addr} {H H':Hp} (s:Smf f H H') (h:H' b=none) (hb:b≠f):H b=none:=by
 cases hq:H b with
 | none=>rfl
 | some o=>rw[s b o hb hq] at h;cases h
theorem SqL.smf {K:Fg} {H H':Hp} {f a:Addr} {xs:List V} (h:SqL K H a xs) (hm:Smf f H H') (ne:a≠f):SqL K H' a xs:=by
 rcases h with (h | ⟨o,h⟩) | h
 · exact .inl (.inl (hm _ _ ne h))
 · exact .inl (.inr ⟨o,hm _ _ ne h⟩)
 · exact .inr h
def KL (K:Fg) (a:Addr) (ns:List Int):Prop:=∃ (o:Obj) (its:Array Value) (n:Nat),K.lookup a=some o∧o.cls=.type "list"∧o.dict=none∧o.data=.seq its n∧its.size≤sizeLine∧aO (ns.map V.int) its.toList
theorem Pk.put {K:Fg} {H:Hp} {s a L:Addr} {n:Nat} {m:Str→Option V} {ns:List Int} {k:Int} (p:Pk K H s n m a ns k) {xs ys:List V} (hL:H L=some (.lst xs)) (La:KL K a ns∨L≠a):Pk K (upd H L (.lst ys)) s n m a ns k:=by
 have Ls:s≠L:=fun e=>by
  obtain⟨kvs,h1,_⟩:=p.st;rw[e,hL] at h1;cases h1
 have sm:Smf L H (upd H L (.lst ys)):=fun b o hb e=>by rw[aa hb];exact e
 exact⟨p.st.smf sm Ls,p.hn,p.sc,p.ne,La.elim (fun z=>.inr z) (fun z=>SqL.smf p.sq sm (Ne.symm z)),p.len,p.hk,p.k0⟩
section
variable {P:Program} {w:World} {K:Fg} {mg:SOV} {base:Heap}
abbrev sUn:Stmt:=top 18
inductive uh (K:Fg) (vs:List V) (H:Hp) (Q:VK):Prop
  | mk (s a O:Addr) (n:Nat) (m:Str→Option V) (ns:List Int) (k:Int) (os:List Str) (most:Nat) (g0_:vs=[.ref s,.ref O,.int ((most:Nat):Int)]) (g1_:Pk K H s n m a ns k) (g2_:(KL K a ns∨∃ b,H a=some b)) (g3_:k<900000) (g4_:H O=some (.lst (os.map V.str))) (g5_:most≤100) (g6_:∀ (W:Addr) (zs:List Str) (k':Int) (H':Hp),k≤k'→k'≤k+1+2*((most:Nat):Int)→zs.length≤most→(∀ z∈zs,z∈nms)→H W=none→H' W=some (.lst (zs.map V.str))→Smf s H H'→Pk K H' s n (aH m "k" (.int k')) a ns k'→Q (.ref W) H'):uh K vs H Q
def vg (K:Fg):Sp:=fun vs H Q _=>uh K vs H Q
theorem xV:ax ["_law_state","_law_others","_law_most","_law_found","_law_k","_law_name_here"] ["_law_state","_law_others","_law_most"] (a9 sUn):=fsM
theorem yQ (D:Def K mg "_law_unlike" sUn) (T:Blt mg) (ab:Fn P w K mg base "_law_pick" 2 ["_law_state","_law_many"] (iw K)) (bT:Fn P w K mg base "_law_name" 3 ["_law_state"] (vi K)):Fn P w K mg base "_law_unlike" 4 ["_law_state","_law_others","_law_most"] (vg K):=by
 refine D.fn xV (fun vs H Q E h=>?_) (fun _ _ _ _ _ _ us hl=>by obtain⟨a,b,c,rfl⟩:=gs hl;rfl) (fun f cdv A outer s' H vs Q E hr h=>?_)
 · obtain⟨s,a,O,n,m,ns,k,os,most,rfl,_⟩:=h;rfl
 · obtain⟨s,a,O,n,m,ns,k,os,most,rfl,p,hba,hk,hO,hmo,q⟩:=h;have nd:=xV.nd;have hz0:(1000000:Nat)<sizeLine:=by decide
   refine⟨_,(pE (pN (i:=3) nd rfl (Or.inl rfl) (ag pC))
 (pE (bx PassesOwn.never rfl (bL rfl T.range (pA (ac ab (hr.mono (by decide)) rfl (pA (pv 0) (pA (aC bY (pv 2) pH) pC))) pC)) (ao (i:=4) nd rfl (Or.inl rfl))
 (pE (pN (i:=5) nd rfl (Or.inl rfl) (ac bT (hr.mono (by decide)) rfl (pA (pv 0) pC)))
 (pI (aN (PW.pt (b6 (pO cN (pv 5) (pv 3) (by with_unfolding_all rfl)) (bh (pO cN (pv 5) (pv 1) (by with_unfolding_all rfl))))) (pI (ak (aV (pv 3) (pA (pv 5) pC)))) aF))))
 (pI (au (pv 3))))),?_⟩
   dsimp only[bC,bH,bG];refine⟨f9,fun W hW=>?_⟩;have k1:=smu (o:=HO.lst []) hW;have hW1:(upd H W (.lst [])) W=some (.lst []):=pG;have Ws:=p.st.ne hW;have Wa:KL K a ns∨W≠a:=hba.imp_right fun z e=>by obtain⟨b,hb⟩:=z;rw[e,hb] at hW;cases hW
   have Os:O≠s:=fun e=>by
    obtain⟨kvs,h1,_⟩:=p.st;rw[e,h1] at hO;cases hO
   have hO1:=k1 _ _ hO;have OW:O≠W:=fun e=>by rw[e,hW] at hO;cases hO
   generalize upd H W (.lst [])=H1 at k1 hW1 hO1 ⊢;have p1:=p.same k1;refine⟨_,rfl,_,rfl,_,_,rfl,rfl,s,a,n,m,ns,k,_,rfl,p1.st,p1.hn,p1.sc,p1.ne,p1.sq,p1.len,p1.hk,p1.k0,(by lia),by lia,fun r H2 r0 r1 mo st2=>?_⟩;have p2:=p1.next mo st2;obtain⟨c,rfl⟩:=Int.eq_ofNat_of_zero_le r0;refine⟨_,rfl,(by lia),by lia,?_⟩;rw[show ((c:Nat):Int).toNat=c from Int.toNat_natCast c];show aA _ _ _ _ _ _;refine aA.byN (bv (n:=c)) (fun i σ Hi=>Smf s H Hi∧Hi O=some (.lst (os.map V.str))∧(∃ k',k≤k'∧k'≤k+1+2*((i:Nat):Int)∧Pk K Hi s n (aH m "k" (.int k')) a ns k')∧(∃ zs:List Str,Hi W=some (.lst (zs.map V.str))∧zs.length≤i∧∀ z∈zs,z∈nms)∧∃ x4 x5,σ=[some (.ref s),some (.ref O),some (.int ((most:Nat):Int)),some (.ref W),x4,x5])
    ⟨(Smf.of k1).trans (Smf.mo mo),by rw[mo O Os];exact hO1,⟨k+1,(by lia),by simp,p2⟩,⟨[],by rw[mo W Ws];exact hW1,Nat.le_refl _,by simp⟩,_,_,rfl⟩ (fun _ _ _ _ _=>trivial) ?_ ?_
   · rintro i x σ Hi N_ B_ hN_ hB_ hx ⟨sm,hOi,⟨k',c1,c2,pi⟩,⟨zs,hWi,hzl,hzn⟩,x4,x5,rfl⟩;have hic:i<c:=by have:=(gES.mp hx).1;rw[bp] at this;exact this
     refine⟨_,rfl,s,a,n,_,ns,k',rfl,pi,by lia,fun z H3 hz sm3 p3=>?_⟩;rw[bR] at p3;have hW3:=sm3 _ _ Ws hWi;have hO3:=sm3 _ _ Os hOi;have done:∀ (zs':List Str) (H4:Hp),Smf s H3 H4∨True→Smf s H H4→H4 O=some (.lst (os.map V.str))→Pk K H4 s n (aH m "k" (.int (k'+2))) a ns (k'+2)→H4 W=some (.lst (zs'.map V.str))→zs'.length≤i+1→(∀ z∈zs',z∈nms) →
      Smf s H H4∧H4 O=some (.lst (os.map V.str))∧(∃ k',k≤k'∧k'≤k+1+2*(((i+1:Nat):Nat):Int)∧Pk K H4 s n (aH m "k" (.int k')) a ns k')∧(∃ zs:List Str,H4 W=some (.lst (zs.map V.str))∧zs.length≤i+1∧∀ z∈zs,z∈nms)∧∃ x4 x5,([some (.ref s),some (.ref O),some (.int ((most:Nat):Int)),some (.ref W),some x,some (.str z)]:St)=[some (.ref s),some (.ref O),some (.int ((most:Nat):Int)),some (.ref W),x4,x5] :=
      fun zs' H4 _ h1 h2 h3 h4 h5 h6=>⟨h1,h2,⟨k'+2,(by lia),by lia,h3⟩,⟨zs',h4,h5,h6⟩,_,_,rfl⟩
     refine⟨_,rfl,_,rfl,W,_,rfl,.inl (SqL.of hW3),rfl,ck _,_,rfl,?_⟩;cases (!inV (V.str z) (zs.map V.str)) with
     | false=>exact aU (hN_ _ _ (done zs H3 (.inr trivial) (sm.trans sm3) hO3 p3 hW3 (by lia) hzn))
     | true =>
      refine bj ⟨_,rfl,_,rfl,O,_,rfl,.inl (SqL.of hO3),rfl,ck _,_,rfl,?_⟩;cases (!inV (V.str z) (os.map V.str)) with
      | false=>exact aU (hN_ _ _ (done zs H3 (.inr trivial) (sm.trans sm3) hO3 p3 hW3 (by lia) hzn))
      | true =>
       refine bj ⟨_,rfl,.inl ⟨rfl,_,SqL.of hW3⟩,_,rfl,W,_,_,rfl,rfl,hW3,by rw[lMp];lia,?_⟩;refine hN_ _ _ (done (zs++[z]) _ (.inr trivial) (Smf.put (sm.trans sm3) hW) (by rw[aa OW];exact hO3) (p3.put hW3 Wa) (by rw[pG];simp) (by simp;assumption) fun y hy=>?_)
       rcases mAp.mp hy with hy | hy
       · exact hzn y hy
       · rw[mSg.mp hy];exact hz
   · rintro σ Hi ⟨sm,hOi,⟨k',c1,c2,pi⟩,⟨zs,hWi,hzl,hzn⟩,x4,x5,rfl⟩;rw[bp] at c2 hzl;exact⟨_,rfl,q W zs k' Hi c1 (by lia) (by lia) hzn hW hWi sm pi⟩
end
end K11
namespace PySem
open Sem (wp)
section
variable {prog:Program} {w:World} {K:Type} [DecidableEq K] (knd:KeyKind prog w K)
def cj (h:Heap) (k:K×List K) (a:Addr):Prop:=∃ o v b n,h.get? a=some o∧o.cls=.type "tuple"∧o.data=.seq #[v,.ref b] n∧knd.is k.1 v=true∧IsTupleKey knd h k.2 b
def gX (k:K×List K):Int:=reduceHash (Builtin.Tuple.tupleHashOf [knd.hash k.1,tupleKeyHash knd k.2])
variable {knd}
theorem cj.typeIs {s:Shared} {k:K×List K} {a:Addr} (x:cj knd s.heap k a):s.TypeIs (.ref a) "tuple":=by
 obtain⟨o,_,_,_,ho,hc,_⟩:=x;exact⟨o,ho,hc⟩
theorem cj.inj {h:Heap} {a:Addr} {x y:K×List K} (hx:cj knd h x a) (hy:cj knd h y a):x=y:=by
 obtain⟨o,v,b,n,ho,_,hd,hi,hb⟩:=hx;obtain⟨o',v',b',n',ho',_,hd',hi',hb'⟩:=hy;obtain rfl:o=o':=Option.some.inj (ho.symm.trans ho');rw[hd] at hd'
 injection hd' with h1 _
 have e:=congrArg Array.toList h1;cases e;exact Prod.ext (knd.inj _ _ _ hi hi') (hb.inj hb')
theorem cj.keeps {h h':Heap} {k:K×List K} {a d:Addr} {o:Obj} {es ep} (x:cj knd h k a) (ho:h.get? d=some o) (hd:o.data=.dict es ep) (hs:Heap.SameBut d h h'):cj knd h' k a:=by
 obtain⟨o',v,b,n,ho',hc,hd',hi,hb⟩:=x;have hne:a≠d:=by
  rintro rfl;obtain rfl:o'=o:=Option.some.inj (ho'.symm.trans ho);rw[hd] at hd';exact nomatch hd'
 exact⟨o',v,b,n,(hs.2 a hne).trans ho',hc,hd',hi,hb.keeps ho hd hs⟩
variable {A:Around} {E:VSP} {s:Shared}
theorem fc {k:K×List K} {a:Addr} {Q:Int→Shared→Prop} (hu:A.units+4<cLine) (hk:cj knd s.heap k a) (h:Q (gX knd k) {s with toks:=s.toks+(k.2.length+3)}) :
 wpAny (model prog w) A (pyHash (.ref a)) Q E s:=by
 have hT:=hk.typeIs;obtain⟨o,v,b,n,ho,_,hd,hi,hb⟩:=hk;have hu0:A.units<cLine:=by lia
 unfold pyHash
 first | unfold pyHashByItsType | skip
 first | refine wB (wpAny_cRoomFor_or (.inr hu0) ?_) | skip
 refine wB (wpAny_specialOf hT F.slot_tuple_hash.lookup ?_);show wpAny _ _ (if (some (Value.builtin "tuple.__hash__")==some Value.none)=true then _ else _) Q E s;rw[if_neg (by rw[beq_builtin_none];exact Bool.false_ne_true)];refine wB (wpAny_specialOf hT F.slot_tuple_hash.lookup ?_);show wpAny _ _ (callSpecialIfBoundUnlessNone? (.ref a) "__hash__" _>>=_) Q E s;refine wB (wpAny_callSpecialIfBoundUnlessNone?_slot hT F.slot_tuple_hash (wpAny_call_entry F.slot_tuple_hash hT F.entry_tuple_hash ?_ (F.args_tuple_hash_1 _)));show wpAny _ _ (Builtin.Tuple.tupleItemsOf (.ref a)>>=_) _ _ s;refine wB (wpAny_tupleItemsOf ho hd ?_);refine wB ?_;rw[← Array.forIn_toList];simp only[List.forIn_cons,List.forIn_nil];refine wB (wB (knd.pyHash hi (wP ?_)));refine wB (wB (wpAny_pyHash_tuple (knd:=knd) (ks:=k.2) (by show A.units+1<cLine;lia) hb (wP (wP ?_))));show wpAny _ _ (retInt (Builtin.Tuple.tupleHashOf [knd.hash k.1,tupleKeyHash knd k.2])) _ _ _;have et:s.toks+1+(k.2.length+1)+1=s.toks+(k.2.length+3):=by lia
 refine wpAny_ret_mkInt ?_;unfold gX reduceHash at h;generalize Builtin.Tuple.tupleHashOf [knd.hash k.1,tupleKeyHash knd k.2]=z at h ⊢;show wpAny _ _ (if (decide (-(2:Int) ^ 63≤z)&&decide (z<2 ^ 63))=true then _ else _) Q E _;by_cases hr:(decide (-(2:Int) ^ 63≤z)&&decide (z<2 ^ 63))=true
 · rw[if_pos hr];rw[if_pos hr] at h;exact wP (by dsimp only;rw[et];exact h)
 · rw[if_neg hr];rw[if_neg hr] at h;exact wB (wpAny_rule (wP (by dsimp only;rw[et];exact h)))
theorem ju {x y:K×List K} {a b:Addr} {P:Fin→Shared→Prop} (hu:A.units+4<cLine) (hx:cj knd s.heap x a) (hy:cj knd s.heap y b) (h:P (.done (.ret (.bool (decide (x=y))))) s) :
 wpAny (model prog w) A (Builtin.«tuple.__eq__» ⟨[.ref a,.ref b],[]⟩) P E s:=by
 have hTb:=hy.typeIs;obtain⟨oa,v,c,na,hoa,_,hda,hia,hca⟩:=hx;obtain⟨ob,v',c',nb,hob,_,hdb,hib,hcb⟩:=hy;show wpAny _ _ (isInstance (.ref b) (.type "tuple")>>=_) _ _ s;refine wB (wpAny_isInstance hTb isSubtype_tuple_tuple ?_);simp only[Bool.not_true,Bool.false_eq_true,if_false];refine wB (wpAny_tupleItemsOf hoa hda ?_);refine wB (wpAny_tupleItemsOf hob hdb ?_);refine wB ?_;simp only[List.zip_cons_cons,List.zip_nil_left,List.forIn_cons,List.forIn_nil];refine wB (wB (knd.eqBool (a:=x.1) (b:=y.1) hia hib ?_));by_cases h1:x.1=y.1
 · rw[decide_eq_true h1];simp only[Bool.not_true,Bool.false_eq_true,if_false];refine wP ?_;refine wB (wB (wpAny_eqBool_tuple (knd:=knd) (x:=x.2) (y:=y.2) (by lia) hca hcb ?_));by_cases h2:x.2=y.2
   · rw[decide_eq_true h2];simp only[Bool.not_true,Bool.false_eq_true,if_false];refine wP (wP ?_);have e:x=y:=Prod.ext h1 h2;rw[decide_eq_true e] at h;exact wP h
   · rw[decide_eq_false h2];simp only[Bool.not_false,if_true];have e:¬ x=y:=fun z=>h2 (congrArg Prod.snd z);rw[decide_eq_false e] at h;exact wB (wP (wP (wP (wP h))))
 · rw[decide_eq_false h1];simp only[Bool.not_false,if_true];have e:¬ x=y:=fun z=>h1 (congrArg Prod.fst z);rw[decide_eq_false e] at h;exact wB (wP (wP (wP (wP h))))
theorem ff {x y:K×List K} {a b:Addr} {Q:Bool→Shared→Prop} (hu:A.units+8<cLine) (hx:cj knd s.heap x a) (hy:cj knd s.heap y b) (h:Q (decide (x=y)) s) :
 wpAny (model prog w) A (eqBool (.ref a) (.ref b)) Q E s:=by
 unfold eqBool
 try with_reducible refine wpAny_holding ?_
 show wpAny _ _ (if (Value.ref a==Value.ref b)=true then _ else _) Q E s;by_cases hab:(Value.ref a==Value.ref b)=true
 · rw[if_pos hab];have e:a=b:=by have:=eq_of_beq hab;injection this
   subst e;obtain rfl:=hx.inj hy;exact wB (wpAny_rule (wP (by simpa using h)))
 · rw[if_neg hab];exact wB (wpAny_richCompare_same_room (op:=.Eq) hx.typeIs hy.typeIs F.slot_tuple_eq
     (wpAny_call_entry F.slot_tuple_eq hx.typeIs F.entry_tuple_eq (ju (by show A.units+1+4<cLine;lia) hx hy ⟨_,rfl,(fun e=>nomatch e),wpAny_truthy_bool h⟩) (F.args_tuple_eq_2 _ _)) (by lia))
theorem dj {n:Nat} {ks:List K} {a:Addr} {Q:Bool→Shared→Prop} (hk:IsTupleKey knd s.heap ks a) (h:Q true s):wpAny (model prog w) A (eqIsQuiet (n+1) (.ref a)) Q E s:=by
 have hT:=hk.typeIs;obtain⟨o,aq,m,ho,_,hd,hi⟩:=hk;unfold eqIsQuiet;refine wB (wpAny_specialOf hT F.slot_tuple_eq.lookup ?_);show wpAny _ _ (isInstance (.ref a) (.type "tuple")>>=_) _ _ s;refine wB (wpAny_isInstance hT isSubtype_tuple_tuple ?_);simp only[Bool.not_true,Bool.false_eq_true,if_false];refine wB (wpAny_seqItems ho hd ?_);refine wB ?_;show wpAny _ _ (forIn aq _ _) _ _ s;rw[← Array.forIn_toList];refine wpAny_forIn_list _ (fun cK r s'=>r.1=none∧s'=s∧∀ v∈cK,carriedByValue v=true) _ ?_ ?_ _ _ ⟨rfl,rfl,hi.byValue⟩
 · rintro v cK r s' ⟨hr,rfl,hall⟩;rw[eqIsQuiet_byValue _ (hall v mCS)];refine wB (wP ?_);simp only[Bool.not_true,Bool.false_eq_true,if_false];exact wP ⟨rfl,rfl,fun u hu'=>hall u (mCM _ hu')⟩
 · rintro⟨r1,r2⟩ s' ⟨hr,rfl,_⟩;simp only at hr;subst hr;exact wP h
theorem dJ {k:K×List K} {a:Addr} {Q:Bool→Shared→Prop} (hk:cj knd s.heap k a) (h:Q true s):wpAny (model prog w) A (eqIsQuiet 8 (.ref a)) Q E s:=by
 have hT:=hk.typeIs;obtain⟨o,v,b,m,ho,_,hd,hi,hb⟩:=hk;unfold eqIsQuiet;refine wB (wpAny_specialOf hT F.slot_tuple_eq.lookup ?_);show wpAny _ _ (isInstance (.ref a) (.type "tuple")>>=_) _ _ s;refine wB (wpAny_isInstance hT isSubtype_tuple_tuple ?_);simp only[Bool.not_true,Bool.false_eq_true,if_false];refine wB (wpAny_seqItems ho hd ?_);refine wB ?_;show wpAny _ _ (forIn #[v,Value.ref b] _ _) _ _ s;rw[← Array.forIn_toList];simp only[List.forIn_cons,List.forIn_nil];rw[eqIsQuiet_byValue _ (knd.byValue _ _ hi)];refine wB (wB (wP ?_));simp only[Bool.not_true,Bool.false_eq_true,if_false];refine wP ?_;refine wB (wB (dj (n:=6) hb ?_));simp only[Bool.not_true,Bool.false_eq_true,if_false];exact wP (wP (wP h))
end
def dO {prog:Program} {w:World} {K:Type} [DecidableEq K] (knd:KeyKind prog w K):HeapKind prog w (K×List K) where
  is:=cj knd
  hash:=gX knd
  draws:=fun k=>k.2.length+3
  room:=fun A=>A.units+8<cLine
  inj:=fun hx hy=>hx.inj hy
  keeps:=fun x ho hd hs=>x.keeps ho hd hs
  pyHash:=fun hu hk h=>fc (by lia) hk h
  eqBool:=fun hu hx hy h=>ff hu hx hy h
  quiet:=fun hk h=>dJ hk h
end PySem
namespace L2
open PySem PySem.Spec PyProof.Rows
abbrev NK:=Key×List Key
abbrev NKV:=List (NK×Addr×V)
abbrev dH:NKV→List (NK×Addr×Value)→Prop:=Paired fun p q=>p.1=q.1∧p.2.1=q.2.1∧aM p.2.2 q.2.2
def DNφ (P:Program) (w:World) (d:Addr) (kvs:NKV) (h:Heap):Prop :=
  kvs.length≤sizeLine∧(d==sysModules)=false∧∃ xs:List (NK×Addr×Value),dH kvs xs∧∃ o es ep,h.get? d=some o∧o.ExactDict∧o.data=.dict es ep∧es.toList=xs.map (entryOfKey (dO (aw P w)))∧(xs.map (·.1)).Nodup
def DN (P:Program) (w:World) (d:Addr) (kvs:NKV):HO:=.ext (DNφ P w d kvs)
def DNo (P:Program) (w:World) (d:Addr) (o:Obj) (kvs:NKV):HO:=.ext fun h=>h.get? d=some o∧DNφ P w d kvs h
section
variable {P:Program} {w:World} {H H':Hp} {h h':Heap} {d b:Addr} {kvs:NKV} {k:NK}
theorem mL (x:DNφ P w d kvs h) (k:∀ o,h.get? d=some o→h'.get? d=some o):DNφ P w d kvs h':=by
 obtain⟨z,y,xs,r,o,es,ep,e,c⟩:=x;exact⟨z,y,xs,r,o,es,ep,k o e,c⟩
theorem u9 (x:DNφ P w d kvs h):bb P w H h d (DN P w d kvs):=by
 obtain⟨_,_,_,_,o,_,_,e,_⟩:=id x;exact⟨x,⟨o,e⟩,fun h1 h2 a b=>mL a b⟩
theorem wv {o:Obj} (e:h.get? d=some o) (x:DNφ P w d kvs h):bb P w H h d (DNo P w d o kvs) :=
 ⟨⟨e,x⟩,⟨o,e⟩,fun h1 h2 a b=>⟨b _ a.1,mL a.2 b⟩⟩
theorem qK (ok:HOk P w H h) (e:H d=some (DN P w d kvs)):DNφ P w d kvs h:=(ok d _ e).1
def bZ (H:Hp) (b:Addr) (k:NK):Prop:=∃ p,H b=some (.tup [kV k.1,.ref p])∧H p=some (.tup (k.2.map kV))
def df (H:Hp) (kvs:NKV):Prop:=∀ x∈kvs,bZ H x.2.1 x.1
theorem bZ.is (ok:HOk P w H h) (n:bZ H b k):(dO (aw P w)).is h k b:=by
 obtain⟨p,e1,e2⟩:=n;obtain⟨_,its,r,o,ho,hc,n,hd⟩:=(show bb P w H h b (.tup _) from ok b _ e1);obtain⟨u,v,rfl,ru,rv⟩:=r.two;cases (show v=Value.ref p from rv);exact⟨o,u,p,n,ho,hc,hd,gf ru,fX ok e2⟩
theorem bZ.keep (n:bZ H b k) (ht:∀ c ys,H c=some (.tup ys)→H' c=some (.tup ys)):bZ H' b k:=by
 obtain⟨p,e1,e2⟩:=n;exact⟨p,ht _ _ e1,ht _ _ e2⟩
theorem df.keep (n:df H kvs) (ht:∀ c ys,H c=some (.tup ys)→H' c=some (.tup ys)):df H' kvs:=fun x hx=>(n x hx).keep ht
theorem dH.all (ok:HOk P w H h) {xs:List (NK×Addr×Value)} (r:dH kvs xs) (n:df H kvs):∀ x∈xs,(dO (aw P w)).is h x.1 x.2.1:=by
 induction (show Paired _ kvs xs from r) with
 | nil=>exact fun x hx=>by cases hx
 | cons z t ih =>
  intro x hx
  rcases List.mem_cons.mp hx with rfl | hx
  · obtain⟨e1,e2,_⟩:=z;have:=(n _ mCS).is ok;rw[e1,e2] at this;exact this
  · exact ih t (fun y hy=>n y (mCM _ hy)) x hx
theorem dH.length {xs:List (NK×Addr×Value)} (r:dH kvs xs):kvs.length=xs.length:=Paired.length r
def dF (kvs:NKV) (k:NK) (b:Addr) (v:V):NKV:=if (kvs.any fun x=>decide (x.1=k)) then kvs.map (fun x=>if x.1=k then (x.1,x.2.1,v) else x) else kvs++[(k,b,v)]
theorem dU (kvs:NKV) (k:NK) (b:Addr) (v:V):(dF kvs k b v).length≤kvs.length+1:=by
 unfold dF;split <;> simp
theorem dH.any {xs:List (NK×Addr×Value)} (r:dH kvs xs) (k:NK):(kvs.any fun x=>decide (x.1=k))=(atKey xs k).isSome:=by
 induction (show Paired _ kvs xs from r) with
 | nil=>rfl
 | @cons p q _ _ z t ih =>
  obtain⟨e1,_,_⟩:=z;rw[List.any_cons,ih t];by_cases h:q.1=k
  · simp[atKey,List.find?_cons,e1,h]
  · simp[atKey,List.find?_cons,e1,h]
theorem dH.repl {xs:List (NK×Addr×Value)} (r:dH kvs xs) (k:NK) {y:V} {u:Value} (ry:aM y u):dH (kvs.map fun x=>if x.1=k then (x.1,x.2.1,y) else x) (xs.map (putAt k u)):=by
 induction (show Paired _ kvs xs from r) with
 | nil=>exact .nil
 | @cons p q _ _ z t ih =>
  obtain⟨e1,e2,e3⟩:=z;rw[List.map_cons,List.map_cons];refine .cons ?_ (ih t);unfold putAt;by_cases h:q.1=k
  · rw[if_pos h,if_pos (e1.trans h)];exact⟨e1,e2,ry⟩
  · rw[if_neg h,if_neg (fun z=>h (e1.symm.trans z))];exact⟨e1,e2,e3⟩
theorem dH.snoc {xs:List (NK×Addr×Value)} (r:dH kvs xs) (k:NK) (b:Addr) {y:V} {u:Value} (ry:aM y u):dH (kvs++[(k,b,y)]) (xs++[(k,b,u)]):=by
 induction (show Paired _ kvs xs from r) with
 | nil=>exact .cons ⟨rfl,rfl,ry⟩ .nil
 | cons z t ih=>exact .cons z (ih t)
theorem dH.put {xs:List (NK×Addr×Value)} (r:dH kvs xs) (k:NK) (b:Addr) {y:V} {u:Value} (ry:aM y u):dH (dF kvs k b y) (storedH xs k b u):=by
 unfold dF storedH;rw[r.any k];split
 · exact r.repl k ry
 · exact r.snoc k b ry
end
section
variable {X:Cx} {pins:AOs} {σ:St} {H:Hp} {s:Shared} {d b:Addr} {kvs:NKV} {k:NK} {v:V} {r:Value} {A:Around} {E:VSP}
theorem lJ {Q:Unit→Shared→Prop} (hu:A.units+10<cLine) (I:Inv X pins σ H s) (e:H d=some (DN X.prog X.w d kvs)) (na:df H kvs) (nb:bZ H b k) (hl:kvs.length<sizeLine) (rv:aM v r)
 (h:∀ s',Inv X pins σ (upd H d (DN X.prog X.w d (dF kvs k b v))) s'→Q () s'):wpAny (model X.prog X.w) A (setItem (.ref d) (.ref b) r) Q E s:=by
 obtain⟨z,hd,xs,rel,o,es,ep,h1,h2,h3,h4,h5⟩:=qK I.hok e;have dd:s.heap.DictOfH (dO (aw X.prog X.w)) d xs:=⟨o,es,ep,h1,h2,h3,h4,rel.all I.hok na,h5⟩;have hz:xs.length≤sizeLine:=by rw[← rel.length];exact z
 have hp:(dF kvs k b v).length≤sizeLine:=by have:=dU kvs k b v;lia
 refine wpAny_setItem_heap (hsz:=hz) (show A.units+1+8<cLine by lia) (nb.is I.hok) dd fun h' dd' hs=>h _ ?_;obtain⟨q,es',ep',hq,g2,g3,g4,_,g5⟩:=dd';exact ej I (by rw[e];exact True.intro) hs ⟨q,hq⟩ (u9 ⟨hp,hd,_,rel.put k b rv,q,es',ep',hq,g2,g3,g4,g5⟩)
end
def tT (P:Program) (w:World) (td ty tv:TE):TS:=fun D σ H=>tv σ H fun v H1=>td σ H1 fun x H2=>ty σ H2 fun y H3=>∃ d b kvs k,x=.ref d∧y=.ref b∧H3 d=some (DN P w d kvs)∧df H3 kvs∧bZ H3 b k∧kvs.length<sizeLine∧D.nx σ (upd H3 d (DN P w d (dF kvs k b v)))
def vc (P:Program) (w:World):TE:=fun _ H Q=>∀ p,H p=none→Q (.ref p) (upd H p (DN P w p []))
section
variable {X:Cx} {pos pos':Pos} {o i value:Expr} {td ty tv:TE}
theorem mw (hu:X.A.units+10<cLine) (ho:PE X o td) (hi:PE X i ty) (hv:PE X value tv) (hs:swapsWith value (some (.Subscript o i pos')) pos.line X.env=pure false) :
 PS X (.Assign [.Subscript o i pos'] value pos) (tT X.prog X.w td ty tv):=by
 intro pins s σ H D I h;refine wpAny_Assign_Subscript (thn (hv pins s σ H _ I h) fun r s1 zz81=>?_) hs;obtain⟨v,H1,I1,rv,q1⟩:=zz81;refine thn (ho pins s1 σ H1 _ I1 q1) fun u s2 zz82=>?_;obtain⟨x,H2,I2,rx,q2⟩:=zz82;refine thn (hi pins s2 σ H2 _ I2 q2) fun iv s3 zz83=>?_;obtain⟨y,H3,I3,ry,d,b,kvs,k,ex,ey,e,na,nb,hl,q3⟩:=zz83;subst ex ey;obtain rfl:u=Value.ref d:=rx;obtain rfl:iv=Value.ref b:=ry;exact lJ hu I3 e na nb hl rv fun s4 I4=>⟨σ,_,I4,q3⟩
theorem kB:PE X (.Dict [] [] pos) (vc X.prog X.w):=fun pins s σ H Q I h =>
 wpAny_Dict_empty ⟨.ref s.heap.objs.size,_,I.laid (a:=s.heap.objs.size) (o:=DN X.prog X.w s.heap.objs.size []) (t':=s.toks) (fun _ _ q=>hpS _ q) (Nat.le_refl _)
   (u9 ⟨Nat.zero_le _,beq_eq_false_iff_ne.mpr (Ne.symm (Nat.ne_of_lt I.big)),[],.nil,_,#[],0,Heap.get?_push_size _ rfl,⟨rfl,rfl,rfl⟩,rfl,rfl,List.nodup_nil⟩),rfl,h _ (I.hok.fresh (Nat.le_refl _))⟩
end
end L2
namespace PySem
open Sem (wp)
section
variable {prog:Program} {w:World} {A:Around} {E:VSP} {s:Shared}
theorem pQ {d:Addr} {o:Obj} {es:Array DictEntry} {ep:Nat} {Q:VSP} (hd:(d==sysModules)=false) (ho:s.heap.get? d=some o) (hc:o.ExactDict) (hdat:o.data=.dict es ep)
 (hQ:Q (.ref s.heap.objs.size) {s with heap:=s.heap.push {cls:=.type "dict_keyiterator",data:=.fields #[.ref d,.int 0 0,.int es.size 0,.int ep 0]}}) :
 wpAny (model prog w) A (pyIter (.ref d)) Q E s:=by
 have hT:s.TypeIs (.ref d) "dict":=⟨o,ho,hc.1⟩;refine wpAny_pyIter_slot hT F.slot_dict_iter (wpAny_call_entry F.slot_dict_iter hT F.entry_dict_iter ?_ (F.args_dict_iter_1 _));unfold Builtin.«dict.__iter__»;refine wB ?_;unfold Builtin.Dict.dictSlotNone;refine wB (wpAny_notOrdered_dict hT ?_);show wpAny _ _ (pure (Value.ref d)) _ _ s;refine wP ?_;show wpAny _ _ (Builtin.Dict.showsAll d>>=_) _ _ s;unfold Builtin.Dict.showsAll;rw[if_neg (by rw[hd];exact Bool.false_ne_true)];refine wB (wP ?_);refine wB (wpAny_dictEntries ho hdat ?_);refine wB (wpAny_dictEpoch ho hdat ?_);refine wB (wpAny_newObj_type (wP ⟨_,rfl,"dict_keyiterator",_,⟨_,Heap.get?_push_size _ rfl,rfl⟩,F.slot_dict_keyiterator_next.lookup,?_⟩))
 simpa [rawInt] using hQ
theorem pz {it d:Addr} {i:Nat} {o':Obj} {es:Array DictEntry} {ep:Nat} {Q:Option Value→Shared→Prop} (hit:s.heap.IsKeyIter it d i es.size ep) (hod:s.heap.get? d=some o') (hdd:o'.data=.dict es ep) (hlt':i<es.size)
 (hQ:∀ h',h'.IsKeyIter it d (i+1) es.size ep→Heap.SameBut it s.heap h'→Q (some es[i].key) {s with heap:=h'}) :
 wpAny (model prog w) A (pyNext (.ref it)) Q E s:=by
 obtain⟨o,ho,hc,hd⟩:=id hit;unfold pyNext;refine wB (wpAny_attempt (wpAny_callSpecial?_slot (name:=Str.ofString "__next__") hit.typeIs F.slot_dict_keyiterator_next
   (wpAny_call_entry F.slot_dict_keyiterator_next hit.typeIs F.entry_dict_keyiterator_next ?_ (F.args_dict_keyiterator_next_1 _))))
 refine wB (wP ?_);refine wB ?_;refine wB ?_
 first | refine wB (wpAny_typeNameOfWhole_keyiter hit.typeIs (wP ?_)) | refine wB (wpAny_typeNameOf_keyiter hit.typeIs (wP ?_))
 refine wB (wpAny_fieldsOf ho hd ?_);have hown:Builtin.Dict_items.ownsTuple "dict_keyiterator"=false:=by decide
 simp -iota only[hown,Bool.false_eq_true,if_false];show wpAny _ _ (if (Value.ref d==Value.none)=true then _ else _) _ _ s;rw[if_neg (show ¬ ((Value.ref d==Value.none)=true) from Bool.false_ne_true)];refine wB (wP ?_);refine wB (wpAny_dictEntries hod hdd ?_);rw[if_neg (by simp)];refine wB (wP ?_);refine wB (wpAny_dictEpoch hod hdd ?_);rw[if_neg (by simp)];refine wP ?_;dsimp only;simp -iota only[show ¬ ((i:Int)<0) from by lia,if_false,Int.toNat_natCast,Array.getElem?_eq_getElem hlt'];refine wB ?_
 first | refine wB (wpAny_typeNameOfWhole_keyiter hit.typeIs (wP ?_)) | refine wB (wpAny_typeNameOf_keyiter hit.typeIs (wP ?_))
 refine wB (wpAny_isOneOf_keyiter hit.typeIs ?_);show wpAny _ _ (setField (.ref it) 1 (rawInt ((i:Int)+1))>>=_) _ _ s;refine wB (wpAny_setField ho hd (by simp) ?_);have hit':(s.heap.update it (Obj.mapFields (·.setIfInBounds 1 (rawInt ((i:Int)+1))))).IsKeyIter it d (i+1) es.size ep :=
  ⟨_,Heap.get?_update_self _ ho (Obj.isFreed_of_fields (Obj.data_mapFields hd _)),(Obj.cls_mapFields ..).trans hc,by rw[Obj.data_mapFields hd];simp[rawInt]⟩
 refine wB (wpAny_holding ?_);refine wB (wpAny_isOneOf_keyiter (s:={s with heap:=s.heap.update it (Obj.mapFields (·.setIfInBounds 1 (rawInt ((i:Int)+1))))}) hit'.typeIs ?_);show wpAny _ _ (pure es[i].key) _ _ _;exact wP (wP ⟨_,rfl,wP (hQ _ hit' (Heap.SameBut.update ..))⟩)
theorem sA {it d:Addr} {i:Nat} {o':Obj} {es:Array DictEntry} {ep:Nat} {Q:Option Value→Shared→Prop} (hh:A.handled=none) (hit:s.heap.IsKeyIter it d i es.size ep) (hod:s.heap.get? d=some o') (hdd:o'.data=.dict es ep) (hge:es.size≤i)
 (hQ:∀ h',Heap.ExtBut it s.heap h'→Q none {s with heap:=h'}):wpAny (model prog w) A (pyNext (.ref it)) Q E s:=by
 obtain⟨o,ho,hc,hd⟩:=id hit;unfold pyNext;refine wB (wpAny_attempt (wpAny_callSpecial?_slot (name:=Str.ofString "__next__") hit.typeIs F.slot_dict_keyiterator_next
   (wpAny_call_entry F.slot_dict_keyiterator_next hit.typeIs F.entry_dict_keyiterator_next ?_ (F.args_dict_keyiterator_next_1 _))))
 refine wB (wP ?_);refine wB ?_;refine wB ?_
 first | refine wB (wpAny_typeNameOfWhole_keyiter hit.typeIs (wP ?_)) | refine wB (wpAny_typeNameOf_keyiter hit.typeIs (wP ?_))
 refine wB (wpAny_fieldsOf ho hd ?_);have hown:Builtin.Dict_items.ownsTuple "dict_keyiterator"=false:=by decide
 simp -iota only[hown,Bool.false_eq_true,if_false];show wpAny _ _ (if (Value.ref d==Value.none)=true then _ else _) _ _ s;rw[if_neg (show ¬ ((Value.ref d==Value.none)=true) from Bool.false_ne_true)];refine wB (wP ?_);refine wB (wpAny_dictEntries hod hdd ?_);rw[if_neg (by simp)];refine wB (wP ?_);refine wB (wpAny_dictEpoch hod hdd ?_);rw[if_neg (by simp)];refine wP ?_;dsimp only;simp -iota only[show ¬ ((i:Int)<0) from by lia,if_false,Int.toNat_natCast,Array.getElem?_eq_none hge];refine wB ?_
 first | refine wB (wpAny_typeNameOfWhole_keyiter hit.typeIs (wP ?_)) | refine wB (wpAny_typeNameOf_keyiter hit.typeIs (wP ?_))
 show wpAny _ _ (setField (.ref it) 0 .none>>=_) _ _ s;refine wB (wpAny_setField ho hd (by simp) ?_);show wpAny _ _ (newExc (.type "StopIteration") []>>=_) _ _ _;refine wB ?_;simp only[newExc,newTuple];refine wB (wpAny_newObj_type ?_ (by size_fits));refine wB (m:=firstArgMember _ _) (wpAny_of_eq (a:=Value.none) (by first | rfl | (simp only[firstArgMember];rfl)) ?_);refine wpAny_newObj_type ?_ (by size_fits);simp only[raiseNew];refine wB (wpAny_handled ?_);rw[show A.in1.handled=none from hh];refine wB (wP (wpAny_throw ?_));refine wB (wpAny_isInstance (T:="StopIteration") (b:=true) ⟨_,Heap.get?_push_size _ rfl,rfl⟩ isSubtype_stop ?_);exact wP (hQ _ (((Heap.SameBut.update ..).extBut.push _).push _))
end
end PySem
namespace L2
open PySem PySem.Spec PyProof.Rows
def Itn (P:Program) (w:World) (d:Addr) (o:Obj) (kvs:NKV):It:=⟨fun i H=>i<kvs.length∧H d=some (DNo P w d o kvs),fun i H v H'=>H'=H∧∃ x,kvs[i]?=some x∧v=.ref x.2.1,fun i H=>kvs.length≤i∧H d=some (DNo P w d o kvs)⟩
theorem qJ {P:Program} {w:World} {H:Hp} {h:Heap} {d:Addr} {o:Obj} {kvs:NKV} (ok:HOk P w H h) (e:H d=some (DNo P w d o kvs)):h.get? d=some o∧DNφ P w d kvs h:=(ok d _ e).1
theorem dH.at {kvs:NKV} {xs:List (NK×Addr×Value)} (r:dH kvs xs):∀ {i:Nat} {q:NK×Addr×Value},xs[i]?=some q→∃ p,kvs[i]?=some p∧p.2.1=q.2.1:=by
 induction (show Paired _ kvs xs from r) with
 | nil=>intro i q h;simp at h
 | cons z t ih =>
  intro i q h;cases i with
  | zero=>cases h;exact⟨_,rfl,z.2.1⟩
  | succ i=>exact ih t h
theorem nj {P:Program} {w:World} {K:Fg} {tg:Expr} (it d:Addr) (o:Obj) (kvs:NKV) {es:Array DictEntry} {ep:Nat} (hdat:o.data=.dict es ep):lQ P w K tg (Itn P w d o kvs) [it] it (fun i h=>h.IsKeyIter it d i es.size ep) where
 mem:=by simp
 obj:=fun i h st b hb=>by
  have e:b=it:=by simpa using hb
  subst e;obtain⟨o,e,c,d⟩:=st;exact⟨o,e,fun v z=>by rw[d] at z;cases z⟩
 keep:=fun i h h' st k=>by
  obtain⟨o,e,r⟩:=st;exact⟨o,k it (by simp) o e,r⟩
 item:=by
  intro X hP hw hK hc i pins s σ H E I hf st hg;subst hP hw hK;obtain⟨f0,f1,f2,f3,f4,f5⟩:=hf it (by simp);obtain⟨hi,hH⟩:=hg;obtain⟨ho,z,_,xs,rel,o2,es2,ep2,h1,h2,h3,h4,h5⟩:=qJ I.hok hH;rw[ho] at h1;cases h1;rw[hdat] at h3;cases h3;have hsz:es.size=xs.length:=by rw[← Array.length_toList,h4,lMp]
  have hlt:i<es.size:=by rw[hsz,← rel.length];exact hi
  refine pz st ho hdat hlt fun h' st' sb=>?_;have I1:Inv X pins σ H {s with heap:=h',toks:=s.toks}:=I.turned (fun b o hb e=>(sb.2 b hb).trans e) f0 f1 f3 f4 f5;obtain⟨oi,e,c,dd⟩:=id st';have hx:xs[i]?=some (xs[i]'(by lia)):=gEE (by lia);obtain⟨p,hp1,hp2⟩:=rel.at hx;have hk:es[i].key=.ref p.2.1:=by
   have e1:=entry_at (knd:=dO (aw X.prog X.w)) h4 i;rw[hx,Array.getElem?_eq_getElem hlt] at e1;rw[Option.some.inj e1,hp2];rfl
  exact⟨_,rfl,mJ (s:={s with heap:=h'}) e c dd (by decide) ⟨.ref p.2.1,H,I1,hk,⟨rfl,p,hp1,rfl⟩,st',fun b hb=>(hf b hb).1⟩⟩
 done:=by
  intro X hP hw hK hc i pins s σ H E I hf st hg;subst hP hw hK;obtain⟨f0,f1,f2,f3,f4,f5⟩:=hf it (by simp);obtain⟨hi,hH⟩:=hg;obtain⟨ho,z,_,xs,rel,o2,es2,ep2,h1,h2,h3,h4,h5⟩:=qJ I.hok hH;rw[ho] at h1;cases h1;rw[hdat] at h3;cases h3;have hsz:es.size=xs.length:=by rw[← Array.length_toList,h4,lMp]
  exact sA (I.ok.hd hc) st ho hdat (by rw[hsz,← rel.length];exact hi) fun h' eb=>⟨rfl,I.turned (t':=s.toks) (fun b o hb e=>eb b o hb e) f0 f1 f3 f4 f5⟩
 self:=fun _ _ _ _ _ st h=>wpAny_pyIter_keyiter st h
def zO (P:Program) (w:World) (tl:TE):TI:=fun σ H R=>tl σ H fun v H1=>∃ d kvs,v=.ref d∧H1 d=some (DN P w d kvs)∧∀ o,R (Itn P w d o kvs) (upd H1 d (DNo P w d o kvs))
theorem sF {X:Cx} {tg l:Expr} {tl:TE} (hl:PE X l tl):PI X tg l (zO X.prog X.w tl):=by
 intro pins s σ H R I h;refine thn (hl pins s σ H _ I h) fun v s1 zz120=>?_;obtain⟨y,H1,I1,r1,d,kvs,ey,hH,q⟩:=zz120;subst ey;obtain rfl:v=Value.ref d:=r1;obtain⟨z,hd,xs,rel,o,es,ep,h1,h2,h3,h4,h5⟩:=id (qK I1.hok hH);have I2:Inv X pins σ (upd H1 d (DNo X.prog X.w d o kvs)) s1:=ej (h':=s1.heap) (t':=s1.toks) I1 (by rw[hH];exact True.intro) ⟨rfl,fun _ _=>rfl⟩ ⟨o,h1⟩ (wv h1 (qK I1.hok hH));refine pQ hd h1 h2 h3 ?_;refine⟨s1.heap.objs.size,[s1.heap.objs.size],_,_,_,rfl,I2.kept (t':=s1.toks) fun b o e=>hpS _ e,nj _ d o kvs h3,⟨_,Heap.get?_push_size _ rfl,rfl,rfl⟩,fun b hb=>?_,q o⟩;have e:b=s1.heap.objs.size:=by simpa using hb
 subst e;exact I2.fpOk (Nat.le_refl _) (I2.hok.fresh (Nat.le_refl _))
theorem jP {P:Program} {w:World} {d:Addr} {o:Obj} {kvs:NKV}:de (Itn P w d o kvs) (kvs.map fun x=>V.ref x.2.1) (fun H=>H d=some (DNo P w d o kvs)) where
 go:=fun i H h hi=>⟨by rw[lMp] at hi;exact hi,h⟩
 yld:=fun i H x H' hg h hy=>by
  obtain⟨rfl,p,hp,rfl⟩:=hy;exact⟨rfl,by rw[gEM,hp];rfl⟩
 stop:=fun i H h hi=>⟨by rw[lMp] at hi;exact hi,h⟩
end L2
namespace K11
open PySem L2 P10
structure Adr where
  s:Addr
  a:Addr
  ro:Addr
  rs:List Addr
  th:Addr
  no:Addr
  sp:Addr
  se:Addr
structure SI (P:Program) (w:World) (K:Fg) (H:Hp) (A:Adr) (n:Nat) (m:Str→Option V) (ns:List Int) (k:Int) (B:Nat) (skv:NKV):Prop where
  pk:Pk K H A.s n m A.a ns k
  al:KL K A.a ns∨∃ b,H A.a=some b
  ro:m "rows"=some (.ref A.ro)
  rv:H A.ro=some (.lst (A.rs.map V.ref))
  rw:∀ r∈A.rs,∃ ws:List Str,H r=some (.lst (ws.map V.str))∧ws.length≤B
  rne:A.ro∉A.rs
  ra:KL K A.a ns∨A.a∉A.rs
  th:m "things"=some (.ref A.th)
  tv:∃ kv,H A.th=some (.dT kv)∧kv.length≤B
  no:m "nodes"=some (.ref A.no)
  nv:∃ kv,H A.no=some (.dT kv)∧kv.length≤B
  sp:m "spans"=some (.ref A.sp)
  sv:H A.sp=some (DN P w A.sp skv)
  sa:df H skv
  sl:skv.length≤B
  se:m "seen"=some (.ref A.se)
  ev:∃ kv,H A.se=some (DN P w A.se kv)∧df H kv∧kv.length≤B
  ne:A.sp≠A.se
def ae (A:Adr) (H H':Hp):Prop:=∀ b o,b≠A.s→b∉A.rs→b≠A.th→b≠A.no→b≠A.sp→b≠A.se→H b=some o→H' b=some o
theorem ae.of {A:Adr} {H H':Hp} (s:aj H H'):ae A H H':=fun b o _ _ _ _ _ _ e=>s b o e
theorem ae.trans {A:Adr} {H H1 H2:Hp} (x:ae A H H1) (y:ae A H1 H2):ae A H H2:=fun b o h1 h2 h3 h4 h5 h6 e=>y b o h1 h2 h3 h4 h5 h6 (x b o h1 h2 h3 h4 h5 h6 e)
section
variable {P:Program} {w:World} {K:Fg} {H H':Hp} {A:Adr} {n:Nat} {m:Str→Option V} {ns:List Int} {k:Int} {B:Nat} {skv:NKV}
theorem SI.same (x:SI P w K H A n m ns k B skv) (e:aj H H'):SI P w K H' A n m ns k B skv where
 pk:=x.pk.same e
 al:=x.al.imp_right fun ⟨b,hb⟩=>⟨b,e _ _ hb⟩
 ro:=x.ro
 rv:=e _ _ x.rv
 rw:=fun r hr=>by obtain⟨ws,h1,h2⟩:=x.rw r hr;exact⟨ws,e _ _ h1,h2⟩
 rne:=x.rne
 ra:=x.ra
 th:=x.th
 tv:=by obtain⟨kv,h1,h2⟩:=x.tv;exact⟨kv,e _ _ h1,h2⟩
 no:=x.no
 nv:=by obtain⟨kv,h1,h2⟩:=x.nv;exact⟨kv,e _ _ h1,h2⟩
 sp:=x.sp
 sv:=e _ _ x.sv
 sa:=x.sa.keep fun c ys z=>e _ _ z
 sl:=x.sl
 se:=x.se
 ev:=by obtain⟨kv,h1,h2,h3⟩:=x.ev;exact⟨kv,e _ _ h1,h2.keep fun c ys z=>e _ _ z,h3⟩
 ne:=x.ne
theorem SI.more (x:SI P w K H A n m ns k B skv) {B':Nat} (h:B≤B'):SI P w K H A n m ns k B' skv :=
 { x with
   rw:=fun r hr=>by obtain⟨ws,h1,h2⟩:=x.rw r hr;exact⟨ws,h1,Nat.le_trans h2 h⟩
   tv:=by obtain⟨kv,h1,h2⟩:=x.tv;exact⟨kv,h1,Nat.le_trans h2 h⟩
   nv:=by obtain⟨kv,h1,h2⟩:=x.nv;exact⟨kv,h1,Nat.le_trans h2 h⟩
   sl:=Nat.le_trans x.sl h
   ev:=by obtain⟨kv,h1,h2,h3⟩:=x.ev;exact⟨kv,h1,h2,Nat.le_trans h3 h⟩ }
theorem SI.sne (x:SI P w K H A n m ns k B skv) {b:Addr} {o:HO} (h:H b=some o) (hd:∀ kvs,o≠.dK kvs):b≠A.s:=fun e=>by
 obtain⟨kvs,h1,_⟩:=x.pk.st;rw[e,h1] at h;exact hd kvs (Option.some.inj h).symm
theorem SI.put (x:SI P w K H A n m ns k B skv) {m':Str→Option V} {k':Int} (mo:Mo H A.s H') (pk':Pk K H' A.s n m' A.a ns k') (e1:m' "rows"=m "rows") (e2:m' "things"=m "things") (e3:m' "nodes"=m "nodes") (e4:m' "spans"=m "spans") (e5:m' "seen"=m "seen"):SI P w K H' A n m' ns k' B skv:=by
 have kp:∀ {b:Addr} {o:HO},H b=some o→(∀ kvs,o≠.dK kvs)→H' b=some o:=fun {b o} h hd=>by rw[mo b (x.sne h hd)];exact h
 have kt:∀ c ys,H c=some (.tup ys)→H' c=some (.tup ys):=fun c ys h=>kp h fun kvs z=>nomatch z;exact
 { pk:=pk'
   al:=x.al.imp_right fun ⟨b,hb⟩=>⟨b,by rw[mo A.a x.pk.ne];exact hb⟩
   ro:=by rw[e1];exact x.ro
   rv:=kp x.rv fun kvs z=>nomatch z
   rw:=fun r hr=>by obtain⟨ws,h1,h2⟩:=x.rw r hr;exact⟨ws,kp h1 (fun kvs z=>nomatch z),h2⟩
   rne:=x.rne
   ra:=x.ra
   th:=by rw[e2];exact x.th
   tv:=by obtain⟨kv,h1,h2⟩:=x.tv;exact⟨kv,kp h1 (fun kvs z=>nomatch z),h2⟩
   no:=by rw[e3];exact x.no
   nv:=by obtain⟨kv,h1,h2⟩:=x.nv;exact⟨kv,kp h1 (fun kvs z=>nomatch z),h2⟩
   sp:=by rw[e4];exact x.sp
   sv:=kp x.sv fun kvs z=>nomatch z
   sa:=x.sa.keep kt
   sl:=x.sl
   se:=by rw[e5];exact x.se
   ev:=by obtain⟨kv,h1,h2,h3⟩:=x.ev;exact⟨kv,kp h1 (fun kvs z=>nomatch z),h2.keep kt,h3⟩
   ne:=x.ne }
theorem SI.laid (x:SI P w K H A n m ns k B skv) {r:Addr} {ws:List Str} (hr:r∈A.rs) (hw:ws.length≤B):SI P w K (upd H r (.lst (ws.map V.str))) A n m ns k B skv:=by
 obtain⟨ws0,h0,_⟩:=x.rw r hr;have kp:∀ {b:Addr} {o:HO},H b=some o→(∀ ys,o≠.lst ys)→(upd H r (.lst (ws.map V.str))) b=some o:=fun {b o} h hd=>by
  rw[aa fun e=>by rw[e,h0] at h;exact hd _ (Option.some.inj h).symm];exact h
 have kt:∀ c ys,H c=some (.tup ys)→(upd H r (.lst (ws.map V.str))) c=some (.tup ys):=fun c ys h=>kp h fun kvs z=>nomatch z;have ar:KL K A.a ns∨r≠A.a:=x.ra.imp_right fun z e=>z (e▸hr);have rr:A.ro≠r:=fun e=>x.rne (e▸hr);exact
 { pk:=x.pk.put h0 ar
   al:=by
     rcases x.al with z | ⟨b,hb⟩
     · exact .inl z
     · by_cases e:A.a=r
       · exact .inr ⟨_,by rw[e];exact pG⟩
       · exact .inr ⟨b,by rw[aa e];exact hb⟩
   ro:=x.ro
   rv:=by rw[aa rr];exact x.rv
   rw:=fun r' hr'=>by
     by_cases e:r'=r
     · subst e;exact⟨ws,pG,hw⟩
     · obtain⟨ws',h1,h2⟩:=x.rw r' hr';exact⟨ws',by rw[aa e];exact h1,h2⟩
   rne:=x.rne
   ra:=x.ra
   th:=x.th
   tv:=by obtain⟨kv,h1,h2⟩:=x.tv;exact⟨kv,kp h1 (fun kvs z=>nomatch z),h2⟩
   no:=x.no
   nv:=by obtain⟨kv,h1,h2⟩:=x.nv;exact⟨kv,kp h1 (fun kvs z=>nomatch z),h2⟩
   sp:=x.sp
   sv:=kp x.sv fun kvs z=>nomatch z
   sa:=x.sa.keep kt
   sl:=x.sl
   se:=x.se
   ev:=by obtain⟨kv,h1,h2,h3⟩:=x.ev;exact⟨kv,kp h1 (fun kvs z=>nomatch z),h2.keep kt,h3⟩
   ne:=x.ne }
theorem SI.told (x:SI P w K H A n m ns k B skv) {kv':List (List Key×V)} (sm:Smf A.th H H') (h':H' A.th=some (.dT kv')) (hl:kv'.length≤B+1):SI P w K H' A n m ns k (B+1) skv:=by
 obtain⟨kv0,h0,_⟩:=x.tv;have kp:∀ {b:Addr} {o:HO},H b=some o→(∀ ys,o≠.dT ys)→H' b=some o:=fun {b o} h hd=>sm b o (fun e=>by rw[e,h0] at h;exact hd _ (Option.some.inj h).symm) h;have kt:∀ c ys,H c=some (.tup ys)→H' c=some (.tup ys):=fun c ys h=>kp h fun kvs z=>nomatch z;obtain⟨kvs,hs,hn,hv⟩:=x.pk.st;have sq':SqL K H' A.a (ns.map V.int):=by
  rcases x.pk.sq with (z | ⟨o,z⟩) | z
  · exact .inl (.inl (kp z fun kvs z=>nomatch z))
  · exact .inl (.inr ⟨o,kp z fun kvs z=>nomatch z⟩)
  · exact .inr z
 exact
 { pk:=⟨⟨kvs,kp hs (fun kvs z=>nomatch z),hn,hv⟩,x.pk.hn,x.pk.sc,x.pk.ne,sq',x.pk.len,x.pk.hk,x.pk.k0⟩
   al:=x.al.imp_right fun ⟨b,hb⟩=>by
     by_cases e:A.a=A.th
     · exact⟨_,by rw[e];exact h'⟩
     · exact⟨b,sm _ _ e hb⟩
   ro:=x.ro
   rv:=kp x.rv fun kvs z=>nomatch z
   rw:=fun r hr=>by obtain⟨ws,h1,h2⟩:=x.rw r hr;exact⟨ws,kp h1 (fun kvs z=>nomatch z),(by lia)⟩
   rne:=x.rne
   ra:=x.ra
   th:=x.th
   tv:=⟨kv',h',hl⟩
   no:=x.no
   nv:=by
     obtain⟨kv,h1,h2⟩:=x.nv;by_cases e:A.no=A.th
     · exact⟨kv',by rw[e];exact h',hl⟩
     · exact⟨kv,sm _ _ e h1,(by lia)⟩
   sp:=x.sp
   sv:=kp x.sv fun kvs z=>nomatch z
   sa:=x.sa.keep kt
   sl:=by have:=x.sl;lia
   se:=x.se
   ev:=by obtain⟨kv,h1,h2,h3⟩:=x.ev;exact⟨kv,kp h1 (fun kvs z=>nomatch z),h2.keep kt,(by lia)⟩
   ne:=x.ne }
theorem ae.mo (mo:Mo H A.s H'):ae A H H':=fun b o h1 _ _ _ _ _ e=>by rw[mo b h1];exact e
theorem ae.laid {r:Addr} {o':HO} (hr:r∈A.rs):ae A H (upd H r o'):=fun b o _ h2 _ _ _ _ e=>by
 have ne:b≠r:=fun z=>h2 (by rw[z];exact hr);rw[aa ne];exact e
theorem ae.told (sm:Smf A.th H H'):ae A H H':=fun b o _ _ h3 _ _ _ e=>sm b o h3 e
theorem ae.tk (x:SI P w K H A n m ns k B skv) (kp:ae A H H'):∀ c ys,H c=some (.tup ys)→H' c=some (.tup ys):=fun c ys h=>by
 obtain⟨kvs,hs,_⟩:=x.pk.st;obtain⟨kt,ht,_⟩:=x.tv;obtain⟨kn,hn,_⟩:=x.nv;obtain⟨ke,he,_⟩:=x.ev;refine kp c _ (fun e=>?_) (fun e=>?_) (fun e=>?_) (fun e=>?_) (fun e=>?_) (fun e=>?_) h
 · rw[e,hs] at h;cases h
 · obtain⟨ws,h1,_⟩:=x.rw c e;rw[h1] at h;cases h
 · rw[e,ht] at h;cases h
 · rw[e,hn] at h;cases h
 · rw[e,x.sv] at h;cases h
 · rw[e,he] at h;cases h
end
section
variable {P:Program} {w:World} {K:Fg} {mg:SOV} {base:Heap}
abbrev sBd:Stmt:=top 26
inductive uM (P:Program) (w:World) (K:Fg) (vs:List V) (H:Hp) (Q:VK):Prop
  | mk (A:Adr) (n:Nat) (m:Str→Option V) (ns:List Int) (k:Int) (B:Nat) (skv:NKV) (z:Str) (b:Bool) (p:Nat) (r:Addr) (nx fn fu:Int) (g0_:vs=[.ref A.s,.str z,.bl b]) (g1_:SI P w K H A n m ns k B skv) (g2_:B<900000) (g3_:m "part"=some (.int ((p:Nat):Int))) (g4_:A.rs[p]?=some r) (g5_:m "next"=some (.int nx)) (g6_:m "function"=some (.int fn)) (g7_:m "funs"=some (.int fu)) (g8_:∀ v H',ae A H H'→SI P w K H' A n (aH m "next" (.int (nx+1))) ns k (B+1) skv→TD K H' v (.tuple [.str z,.int nx,.bool b,.int fu])→Q v H'):uM P w K vs H Q
def xO (P:Program) (w:World) (K:Fg):Sp:=fun vs H Q _=>uM P w K vs H Q
theorem yu:ax ["_law_state","_law_name_here","_law_is_var","_law_one"] ["_law_state","_law_name_here","_law_is_var"] (a9 sBd):=fsM
theorem zC (D:Def K mg "_law_bind" sBd) (T:Blt mg) (aP:Fn P w K mg base "_law_tell" 1 ["_law_state","_law_at","_law_thing"] (vh K)) (af:Fn P w K mg base "_law_lay" 1 ["_law_state","_law_words"] (rX K)):Fn P w K mg base "_law_bind" 2 ["_law_state","_law_name_here","_law_is_var"] (xO P w K):=by
 refine D.fn yu (fun vs H Q E h=>?_) (fun _ _ _ _ _ _ us hl=>by obtain⟨a,b,c,rfl⟩:=gs hl;rfl) (fun f cdv Ar outer s' H vs Q E hr h=>?_)
 · obtain⟨A,n,m,ns,k,B,skv,z,b,p,r,nx,fn,fu,rfl,_⟩:=h;rfl
 · obtain⟨A,n,m,ns,k,B,skv,z,b,p,r,nx,fn,fu,rfl,x,hB,hp,hr',hnx,hfn,hfu,q⟩:=h;have nd:=yu.nd;have hu:=bS hr;have hrm:r∈A.rs:=mGE hr';refine⟨_,(pE (pN (i:=3) nd rfl (Or.inl rfl) (pM hu (pv 0) pD (fun _ _=>rfl)))
 (pE (b7 hu (pv 0) pD (aC bY (pv 3) pH) rfl)
 (pE (ak (ac aP (hr.mono (by decide)) rfl (pA (pv 0) (pA (ac af (hr.mono (by decide)) rfl (pA (pv 0) (pA (ag (pA (pv 1) pC)) pC))) (pA (az (pA pD (pA (pM hu (pv 0) pD (fun _ _=>rfl)) (pA (pv 3) pC)))) pC)))))
 (pI (au (az (pA (pv 1) (pA (pv 3) (pA (pv 2) (pA (pM hu (pv 0) pD (fun _ _=>rfl)) pC)))))))))),?_⟩
   refine⟨_,rfl,A.s,_,rfl,x.pk.st.get hnx,?_⟩;obtain⟨H1,dp,mo,st1⟩:=x.pk.st.put hnx (.int (nx+1)) x.pk.hn;refine⟨_,rfl,_,_,rfl,rfl,_,rfl,A.s,H1,rfl,dp,?_⟩;have nk:∀ {y:Str},y≠"next"→aH m "next" (.int (nx+1)) y=m y:=fun {y} hy=>ah m _ hy;have pk1:Pk K H1 A.s n (aH m "next" (.int (nx+1))) A.a ns k:=⟨st1,x.pk.hn,by rw[nk (by decide +kernel)];exact x.pk.sc,x.pk.ne,SqL.mo x.pk.sq mo x.pk.ne,x.pk.len,by rw[nk (by decide +kernel)];exact x.pk.hk,x.pk.k0⟩;have x1:=x.put mo pk1 (nk (by decide +kernel)) (nk (by decide +kernel)) (nk (by decide +kernel)) (nk (by decide +kernel)) (nk (by decide +kernel));refine⟨_,rfl,_,rfl,_,rfl,eC,fun L hL=>?_⟩;have k2:=smu (o:=HO.lst [V.str z]) hL;have hL2:(upd H1 L (.lst [V.str z])) L=some (.lst ([z].map V.str)):=pG;have x2:=x1.same k2;obtain⟨ws,hw,hwl⟩:=x1.rw r hrm;have Lr:L≠r:=fun e=>by rw[e,hw] at hL;cases hL
   generalize upd H1 L (.lst [V.str z])=H2 at k2 hL2 x2 ⊢;have hw2:=k2 _ _ hw;refine⟨A.s,L,A.ro,r,n,_,p,A.rs,ws,[z],rfl,x2.pk.st,x2.ro,by rw[nk (by decide +kernel)];exact hp,x2.rv,hr',hw2,hL2,Lr,by simp;lia,?_⟩;have x3:SI P w K (upd H2 r (.lst ((ws++[z]).map V.str))) A n (aH m "next" (.int (nx+1))) ns k (B+1) skv:=(x2.more (Nat.le_succ B)).laid hrm (by simp;assumption);have kp3:ae A H (upd H2 r (.lst ((ws++[z]).map V.str))):=(ae.mo mo).trans ((ae.of k2).trans (ae.laid hrm));have hB3:∃ kv,(upd H2 r (.lst ((ws++[z]).map V.str))) A.th=some (.dT kv)∧kv.length≤B:=by
    obtain⟨kv,h1,h2⟩:=x2.tv;exact⟨kv,by rw[aa fun e=>by rw[e,hw2] at h1;cases h1];exact h1,h2⟩
   have x3':=x2.laid (ws:=ws) hrm hwl;generalize upd H2 r (.lst ((ws++[z]).map V.str))=H3 at x3 kp3 hB3 ⊢;refine⟨_,rfl,A.s,_,rfl,x3.pk.st.get (by rw[nk (by decide +kernel)];exact hfn),_,rfl,eB,fun t ht=>?_⟩;have k4:=smu (o:=HO.tup [V.str "local",V.int fn,V.int nx]) ht;have x4:=x3.same k4;obtain⟨kv,hkv,hkl⟩:=hB3;have hkv4:=k4 _ _ hkv;generalize upd H3 t (.tup [V.str "local",V.int fn,V.int nx])=H4 at k4 x4 hkv4 ⊢;refine⟨A.s,A.th,n,_,_,_,_,kv,rfl,x4.pk.st,x4.th,by rw[nk (by decide +kernel)];exact hp,hkv4,(by lia),fun H5 kv5 sm5 h5 hl5=>?_⟩;have x5:SI P w K H5 A n (aH m "next" (.int (nx+1))) ns k (B+1) skv:={ x4.told sm5 h5 (by lia) with
     rw:=fun r' hr'=>by
       obtain⟨ws',h1,h2⟩:=x4.rw r' hr';exact⟨ws',sm5 _ _ (fun e=>by rw[e,hkv4] at h1;cases h1) h1,h2⟩
     tv:=⟨kv5,h5,by lia⟩
     nv:=by
       obtain⟨kv',h1,h2⟩:=x4.nv;by_cases e:A.no=A.th
       · exact⟨kv5,by rw[e];exact h5,by lia⟩
       · exact⟨kv',sm5 _ _ e h1,h2⟩
     sl:=x4.sl
     ev:=by
       obtain⟨kv',h1,h2,h3⟩:=x4.ev;exact⟨kv',sm5 _ _ (fun e=>by rw[e,hkv4] at h1;cases h1) h1,h2.keep (ae.tk x4 (ae.told sm5)),h3⟩ }
   have kp5:ae A H H5:=kp3.trans ((ae.of k4).trans (ae.told sm5));refine⟨_,rfl,_,rfl,_,rfl,_,rfl,A.s,_,rfl,x5.pk.st.get (by rw[nk (by decide +kernel)];exact hfu),Cr,fun u hu'=>?_⟩;have k6:=smu (o:=HO.tup [V.str z,V.int nx,V.bl b,V.int fu]) hu';exact q _ _ (kp5.trans (ae.of k6)) (x5.same k6) (.tup (SqT.of pG) (.cons (.str _) (.cons (.int _) (.cons (.bl _) (.cons (.int _) .nil)))))
end
section
variable {P:Program} {w:World} {K:Fg} {H H':Hp} {A:Adr} {n:Nat} {m:Str→Option V} {ns:List Int} {k:Int} {B:Nat} {skv:NKV}
theorem SI.pick (x:SI P w K H A n m ns k B skv) (mo:Mo H A.s H') (st:StV H' A.s n (aH m "k" (.int (k+1)))):SI P w K H' A n (aH m "k" (.int (k+1))) ns (k+1) B skv :=
 x.put mo (x.pk.next mo st) (ah m _) (ah m _) (ah m _) (ah m _) (ah m _)
end
section
variable {P:Program} {w:World} {K:Fg} {mg:SOV} {base:Heap}
abbrev sNb:Stmt:=top 28
inductive uv (P:Program) (w:World) (K:Fg) (vs:List V) (H:Hp) (Q:VK):Prop
  | mk (A:Adr) (n:Nat) (m:Str→Option V) (ns:List Int) (k:Int) (B:Nat) (skv:NKV) (p:Nat) (r:Addr) (g0_:vs=[.ref A.s]) (g1_:SI P w K H A n m ns k B skv) (g2_:B<900000) (g3_:k<900000) (g4_:m "part"=some (.int ((p:Nat):Int))) (g5_:A.rs[p]?=some r) (g6_:∀ v i H',-100000≤i→i≤100000→ae A H H'→SI P w K H' A n (aH m "k" (.int (k+3))) ns (k+3) (B+1) skv→TD K H' v (.tuple [.str "number",.int i])→Q v H'):uv P w K vs H Q
def xD (P:Program) (w:World) (K:Fg):Sp:=fun vs H Q _=>uv P w K vs H Q
theorem yc:ax ["_law_state","_law_number_here"] ["_law_state"] (a9 sNb):=fsM
theorem nQ {i:Int} (h1:-100000≤i) (h2:i≤100000):i.natAbs.log2<1920:=by
 by_cases h0:i.natAbs=0
 · rw[h0];decide
 · exact (Nat.log2_lt h0).mpr (Nat.lt_of_le_of_lt (show i.natAbs≤100000 by lia) (by decide +kernel))
theorem zd (D:Def K mg "_law_number" sNb) (T:Blt mg) (ab:Fn P w K mg base "_law_pick" 2 ["_law_state","_law_many"] (iw K)) (af:Fn P w K mg base "_law_lay" 1 ["_law_state","_law_words"] (rX K)):Fn P w K mg base "_law_number" 3 ["_law_state"] (xD P w K):=by
 refine D.fn yc (fun vs H Q E h=>?_) (fun _ _ _ _ _ _ us hl=>by obtain⟨a,rfl⟩:=eo hl;rfl) (fun f cdv Ar outer s' H vs Q E hr h=>?_)
 · obtain⟨A,n,m,ns,k,B,skv,p,r,rfl,_⟩:=h;rfl
 · obtain⟨A,n,m,ns,k,B,skv,p,r,rfl,x,hB,hk,hp,hr',q⟩:=h;have nd:=yc.nd;have hrm:r∈A.rs:=mGE hr';refine⟨_,(pE (pN (i:=1) nd rfl (Or.inl rfl) (@am _ _ _ _ _ _ _ aG (ag (pA pH (pA pH (pA (kz gH pH) (pA pH (pA (kz gH pH) (pA (aC bX pH (ac ab (hr.mono (by decide)) rfl (pA (pv 0) (pA pH pC)))) (pA (aC bX (ac ab (hr.mono (by decide)) rfl (pA (pv 0) (pA pH pC))) pH) pC)))))))) (ac ab (hr.mono (by decide)) rfl (pA (pv 0) (pA pH pC))) (fun _ _=>rfl)))
 (pE (ak (ac af (hr.mono (by decide)) rfl (pA (pv 0) (pA (ag (pA (AH T.str (pA (pv 1) pC)) pC)) pC))))
 (pI (au (az (pA pD (pA (pv 1) pC))))))),?_⟩
   dsimp only[bC,bH,bG];refine a7 fun BF wo=>?_;refine⟨_,rfl,_,rfl,_,rfl,A.s,A.a,n,m,ns,k,15,rfl,x.pk.st,x.pk.hn,x.pk.sc,x.pk.ne,x.pk.sq,x.pk.len,x.pk.hk,x.pk.k0,(by lia),by decide,fun r1 H1 r10 r11 mo1 st1=>?_⟩;have x1:=x.pick mo1 st1;refine⟨_,_,rfl,rfl,_,rfl,A.s,A.a,n,_,ns,k+1,65536,rfl,x1.pk.st,x1.pk.hn,x1.pk.sc,x1.pk.ne,x1.pk.sq,x1.pk.len,x1.pk.hk,x1.pk.k0,(by lia),by decide,fun r2 H2 r20 r21 mo2 st2=>?_⟩;have x2:=x1.pick mo2 st2;refine⟨_,_,rfl,rfl,AJ,fun L hL=>?_⟩;have k3:=smu (o:=HO.lst [V.int 0,V.int 1,V.int (-1),V.int 32767,V.int (-32768),V.int (7-r1),V.int (r2-32768)]) hL;have hL3:(upd H2 L (.lst [V.int 0,V.int 1,V.int (-1),V.int 32767,V.int (-32768),V.int (7-r1),V.int (r2-32768)])) L=some (.lst [V.int 0,V.int 1,V.int (-1),V.int 32767,V.int (-32768),V.int (7-r1),V.int (r2-32768)]):=pG;have x3:=x2.same k3;have Ls:=x2.pk.st.ne hL;have g3:upd H2 L (.lst [V.int 0,V.int 1,(fun i=>V.int (-i)) 1,V.int 32767,(fun i=>V.int (-i)) 32768,V.int (7-r1),V.int (r2-32768)])=upd H2 L (.lst [V.int 0,V.int 1,V.int (-1),V.int 32767,V.int (-32768),V.int (7-r1),V.int (r2-32768)]):=rfl;refine⟨_,rfl,A.s,A.a,n,_,ns,k+1+1,7,rfl,x3.pk.st,x3.pk.hn,x3.pk.sc,x3.pk.ne,x3.pk.sq,x3.pk.len,x3.pk.hk,x3.pk.k0,by lia,by decide,fun r4 H4 r40 r41 mo4 st4=>?_⟩;have x4:=x3.pick mo4 st4;have kp4:ae A H H4:=(ae.mo mo1).trans ((ae.mo mo2).trans ((ae.of k3).trans (ae.mo mo4)));have hL4:H4 L=some (.lst [V.int 0,V.int 1,V.int (-1),V.int 32767,V.int (-32768),V.int (7-r1),V.int (r2-32768)]):=by rw[mo4 L Ls];exact hL3
   obtain⟨j,rfl⟩:=Int.eq_ofNat_of_zero_le r40;obtain⟨i,hi,i0,i1⟩:∃ i:Int,([V.int 0,V.int 1,V.int (-1),V.int 32767,V.int (-32768),V.int (7-r1),V.int (r2-32768)]:List V)[j]?=some (.int i)∧-100000≤i∧i≤100000:=by
    have hj:j<7:=(by lia)
    rcases (show j=0∨j=1∨j=2∨j=3∨j=4∨j=5∨j=6 by lia) with rfl | rfl | rfl | rfl | rfl | rfl | rfl
    · exact⟨0,rfl,by decide,by decide⟩
    · exact⟨1,rfl,by decide,by decide⟩
    · exact⟨-1,rfl,by decide,by decide⟩
    · exact⟨32767,rfl,by decide,by decide⟩
    · exact⟨-32768,rfl,by decide,by decide⟩
    · exact⟨7-r1,rfl,by lia,by lia⟩
    · exact⟨r2-32768,rfl,by lia,by lia⟩
   refine⟨L,_,_,.int i,rfl,rfl,SqL.of hL4,pJ hi,?_⟩;refine wo _ _ (a7 fun Dv BY=>?_);rw[bR,bR,show k+1+1+1=k+3 by lia] at x4;refine⟨_,rfl,_,rfl,_,rfl,nQ i0 i1,eC,fun M hM=>?_⟩;have k5:=smu (o:=HO.lst [V.str (toString i)]) hM;have hM5:(upd H4 M (.lst [V.str (toString i)])) M=some (.lst ([(toString i:Str)].map V.str)):=pG;have x5:=x4.same k5;obtain⟨ws,hw,hwl⟩:=x4.rw r hrm;have Mr:M≠r:=fun e=>by rw[e,hw] at hM;cases hM
   have hw5:=k5 _ _ hw;generalize upd H4 M (.lst [V.str (toString i)])=H5 at k5 hM5 x5 hw5 ⊢;refine⟨A.s,M,A.ro,r,n,_,p,A.rs,ws,[(toString i:Str)],rfl,x5.pk.st,x5.ro,by rw[ah _ _ (by decide +kernel)];exact hp,x5.rv,hr',hw5,hM5,Mr,by simp;lia,?_⟩;refine BY _ _ ?_;have x6:=(x5.more (Nat.le_succ B)).laid (ws:=ws++[(toString i:Str)]) hrm (by simp;assumption);have kp6:ae A H (upd H5 r (.lst ((ws++[(toString i:Str)]).map V.str))):=kp4.trans ((ae.of k5).trans (ae.laid hrm));generalize upd H5 r (.lst ((ws++[(toString i:Str)]).map V.str))=H6 at x6 kp6 ⊢;refine⟨_,rfl,gl,fun u hu=>?_⟩;have k7:=smu (o:=HO.tup [V.str "number",V.int i]) hu;exact q _ i _ i0 i1 (kp6.trans (ae.of k7)) (x6.same k7) (.tup (SqT.of pG) (.cons (.str _) (.cons (.int _) .nil)))
end
end K11
namespace P10
open PySem L2
end P10
namespace L2
open PySem PySem.Spec PyProof.Rows
section
variable {X:Cx}
def Bk (K:Fg):R2:=fun x y H Q=>∃ p q xs,x=.ref p∧y=.ref q∧SqL K H p xs∧SqL K H q []∧Q (.bl xs.isEmpty) H
theorem qh (hu:X.A.units+1<cLine):OpR X (compareOp .Eq) (Bk X.K):=by
 intro pins s σ H x y v u Q I rx ry h;obtain⟨p,q,xs,rfl,rfl,hp,hq,k⟩:=h;cases rx;cases ry;obtain⟨its,r1,l1,z1⟩:=I.list hp;obtain⟨its2,r2,l2,z2⟩:=I.list hq;have e1:=r1.length;have e2:its2=[]:=r2.nil_iff.mpr rfl;subst e2;by_cases hl:xs=[]
 · subst hl;have e3:its=[]:=r1.nil_iff.mpr rfl;subst e3;refine SeqAt.eq_listAt (e:=fun _=>true) l1.isList l2.isList rfl (by lia) (fun j h1 h2=>absurd h2 (by simp)) ?_;exact⟨.bl true,H,I,rfl,k⟩
 · have hne:its≠[]:=fun z=>hl (r1.nil_iff.mp z);refine SeqAt.eq_list_lengthsAt l1.isList l2.isList (by simpa using hne) (by lia) ?_;have:xs.isEmpty=false:=by cases xs with | nil=>exact absurd rfl hl | cons _ _=>rfl
   rw[this] at k;exact⟨.bl false,H,I,rfl,k⟩
def Bi (K:Fg):R2:=fun x y H Q=>∃ p q xs,x=.ref p∧y=.ref q∧SqL K H p xs∧SqL K H q []∧Q (.bl (!xs.isEmpty)) H
theorem fV (hu:X.A.units+1<cLine):OpR X (compareOp .NotEq) (Bi X.K):=by
 intro pins s σ H x y v u Q I rx ry h;obtain⟨p,q,xs,rfl,rfl,hp,hq,k⟩:=h;cases rx;cases ry;obtain⟨its,r1,l1,z1⟩:=I.list hp;obtain⟨its2,r2,l2,z2⟩:=I.list hq;have e1:=r1.length;have e2:its2=[]:=r2.nil_iff.mpr rfl;subst e2;by_cases hl:xs=[]
 · subst hl;have e3:its=[]:=r1.nil_iff.mpr rfl;subst e3;exact SeqAt.RcNeAt.lists (e:=fun _=>true) l1.isList l2.isList rfl (by lia) (fun j h1 h2=>absurd h2 (by simp)) X.prog X.w X.xe _ ⟨.bl false,H,I,rfl,k⟩
 · have hne:its≠[]:=fun z=>hl (r1.nil_iff.mp z);have:xs.isEmpty=false:=by cases xs with | nil=>exact absurd rfl hl | cons _ _=>rfl
   rw[this] at k;exact SeqAt.RcNeAt.lists_lengths l1.isList l2.isList (by simpa using hne) (by lia) X.prog X.w X.xe _ ⟨.bl true,H,I,rfl,k⟩
end
end L2
namespace K11
open PySem L2 P10
def dSe (t:Str×Int×Bool×Int):PyData:=.tuple [.str t.1,.int t.2.1,.bool t.2.2.1,.int t.2.2.2]
section
variable {P:Program} {w:World} {K:Fg} {mg:SOV} {base:Heap}
theorem dD {H:Hp} {x:V} {t:Str×Int×Bool×Int} (h:TD K H x (dSe t)):∃ a,x=.ref a∧SqT K H a [.str t.1,.int t.2.1,.bl t.2.2.1,.int t.2.2.2]:=by
 obtain⟨a,xs,rfl,ha,hx⟩:=h.tup_of;cases hx with
 | cons e1 hx=>cases hx with
  | cons e2 hx=>cases hx with
   | cons e3 hx=>cases hx with
    | cons e4 hx =>
     cases hx;cases e1;cases e2;cases e3;cases e4;exact⟨a,rfl,ha⟩
abbrev sSn:Stmt:=top 25
inductive um (K:Fg) (vs:List V) (H:Hp) (Q:VK):Prop
  | mk (s S:Addr) (n:Nat) (m:Str→Option V) (b:Bool) (fu:Int) (xs:List V) (sv:List (Str×Int×Bool×Int)) (g0_:vs=[.ref s,.ref S,.bl b]) (g1_:StV H s n m) (g2_:m "funs"=some (.int fu)) (g3_:H S=some (.lst xs)) (g4_:TDs K H xs (sv.map dSe)) (g5_:sv.length≤100000) (g6_:∀ (W:Addr) (zs:List V) (ts:List (Str×Int×Bool×Int)) (H':Hp),aj H H'→H W=none→H' W=some (.lst zs)→TDs K H' zs (ts.map dSe)→ts.length≤sv.length→(∀ t∈ts,t∈sv)→Q (.ref W) H'):um K vs H Q
def xz (K:Fg):Sp:=fun vs H Q _=>um K vs H Q
theorem xZ:ax ["_law_state","_law_seen_here","_law_is_set","_law_found","_law_k","_law_name_here","_law_is_var","_law_funs","_law_hidden"] ["_law_state","_law_seen_here","_law_is_set"] (a9 sSn):=fsM
theorem e9 {n i:Nat} {x:V} (h:(L2.cD 0 n)[i]?=some x):x=.int ((i:Nat):Int):=by
 unfold L2.cD at h;rw[gEM] at h;obtain⟨k,h1,h2⟩:=oMS.mp h;have hi:=(gES.mp h1).1;rw[gEE hi,List.getElem_range] at h1;cases h1;rw[← h2];simp
theorem Bm:(["_law_other","_law_name_here"]:List Str).Nodup:=by decide +kernel
theorem yV (D:Def K mg "_law_seen" sSn) (T:Blt mg):Fn P w K mg base "_law_seen" 1 ["_law_state","_law_seen_here","_law_is_set"] (xz K):=by
 refine D.fn xZ (fun vs H Q E h=>?_) (fun _ _ _ _ _ _ us hl=>by obtain⟨a,b,c,rfl⟩:=gs hl;rfl) (fun f cdv Ar outer s' H vs Q E hr h=>?_)
 · obtain⟨s,S,n,m,b,fu,xs,sv,rfl,_⟩:=h;rfl
 · obtain⟨s,S,n,m,b,fu,xs,sv,rfl,st,hfu,hS,hxs,hsl,q⟩:=h;have nd:=xZ.nd;have hu:=bS hr;have hxl:=hxs.length;rw[lMp] at hxl;have hz0:(1000000:Nat)<sizeLine:=by decide
   refine⟨_,(pE (pN (i:=3) nd rfl (Or.inl rfl) (ag pC))
 (pE (bx PassesOwn.never rfl (bL rfl T.range (pA (be T.len (pA (pv 1) pC)) pC)) (ao (i:=4) nd rfl (Or.inl rfl))
 (pE (pY (az (pA (am aB (am aG (pv 1) (pv 4) (fun _ _=>rfl)) pH (fun _ _=>rfl)) (pA (am aB (am aG (pv 1) (pv 4) (fun _ _=>rfl)) pH (fun _ _=>rfl)) (pA (am aB (am aG (pv 1) (pv 4) (fun _ _=>rfl)) pH (fun _ _=>rfl)) pC)))) (eP rfl (bg (ao (i:=5) nd rfl (Or.inr rfl)) (bg (ao (i:=6) nd rfl (Or.inl rfl)) (bg (ao (i:=7) nd rfl (Or.inl rfl)) dl)))))
 (pE (gc (i0:=8) (own:=["_law_other"]) (outs:=[(5,"_law_name_here")]) (tc:=me (tOp rEq (tOp (nE K) (d9 0) (tC (.int 0))) (d9 1))) rfl (aL.of (a9 sSn) ["_law_state","_law_seen_here","_law_is_set","_law_found","_law_k","_law_name_here","_law_is_var","_law_funs","_law_hidden"]) (bq (c7 gB (pv 1) (bE (aC bY (pv 4) pH)) cL)) (fun _ _ _ _=>⟨(ao (i:=0) Bm rfl (Or.inl rfl)),(cC (pO aT (am aB (pv 0) pH (fun _ _=>rfl)) (pv 1) (pP _))),(pv 0)⟩) nd rfl rfl)
 (pI (aN (PW.pt (b6 (pO (qh hu) (pv 8) (ag pC) (pP _)) (b6 (PW.pt (fw (gU (cS (pv 6))) (dk (pO aT (pv 7) (pM hu (pv 0) pD (fun _ _=>rfl)) (pP _))))) (bh (PW.pt (fw (cS (pv 6)) (dk (gU (cS (pv 2)))))))))) (pI (ak (aV (pv 3) (pA (am aG (pv 1) (pv 4) (fun _ _=>rfl)) pC)))) aF)))))
 (pI (au (pv 3))))),?_⟩
   dsimp only[bC,bH,bG];refine⟨f9,fun W hW=>?_⟩;have k1:=smu (o:=HO.lst []) hW;have hW1:(upd H W (.lst [])) W=some (.lst []):=pG;generalize upd H W (.lst [])=H1 at k1 hW1 ⊢;refine⟨_,rfl,S,xs,rfl,.inl (SqL.of (k1 _ _ hS)),_,rfl,(by lia),by lia,?_⟩;rw[show ((xs.length:Nat):Int).toNat=xs.length from Int.toNat_natCast _];show aA _ _ _ _ _ _;refine aA.byN (bv (n:=xs.length)) (fun i σ Hi=>aj H Hi∧(∃ (zs:List V) (ts:List (Str×Int×Bool×Int)),Hi W=some (.lst zs)∧TDs K Hi zs (ts.map dSe)∧ts.length≤i∧∀ t∈ts,t∈sv)∧∃ x4 x5 x6 x7 x8,σ=[some (.ref s),some (.ref S),some (.bl b),some (.ref W),x4,x5,x6,x7,x8])
    ⟨k1,⟨[],[],hW1,.nil,Nat.le_refl _,fun _ z=>absurd z nMN⟩,_,_,_,_,_,rfl⟩ (fun _ _ _ _ _=>trivial) ?_ ?_
   · rintro i x σ Hi N_ B_ hN_ hB_ hx ⟨sm,⟨zs,ts,hWi,hts,htl,hmem⟩,x4,x5,x6,x7,x8,rfl⟩;have hin:i<xs.length:=by have:=(gES.mp hx).1;rw[bp] at this;exact this
     obtain rfl:=e9 hx;have hxi:xs[i]?=some xs[i]:=gEE hin;obtain⟨d,hd,htd⟩:=hxs.get hxi;rw[gEM] at hd;obtain⟨t,ht,rfl⟩:=oMS.mp hd;obtain⟨a,ea,ha⟩:=dD htd;have hi:=sm.seqT ha;have hSi:=sm _ _ hS;have c0:∀ {x0 x1 x2 x3:V},atI [x0,x1,x2,x3] 0=some x0:=fun {x0 x1 x2 x3}=>pJ (j:=0) rfl;have c2:∀ {x0 x1 x2 x3:V},atI [x0,x1,x2,x3] 2=some x2:=fun {x0 x1 x2 x3}=>pJ (j:=2) rfl;have c3:∀ {x0 x1 x2 x3:V},atI [x0,x1,x2,x3] 3=some x3:=fun {x0 x1 x2 x3}=>pJ (j:=3) rfl;have ati:atI xs ((i:Nat):Int)=some (.ref a):=pJ (by rw[hxi,ea]);refine⟨_,rfl,_,rfl,S,xs,_,_,rfl,rfl,SqL.of hSi,ati,a,_,0,_,rfl,rfl,hi,c0,_,rfl,_,rfl,S,xs,_,_,rfl,rfl,SqL.of hSi,ati,a,_,2,_,rfl,rfl,hi,c2,_,rfl,_,rfl,S,xs,_,_,rfl,rfl,SqL.of hSi,ati,a,_,3,_,rfl,rfl,hi,c3,eB,fun u hu'=>?_⟩;have k2:=smu (o:=HO.tup [V.str t.1,V.bl t.2.2.1,V.int t.2.2.2]) hu';refine⟨u,_,rfl,SqT.of pG,rfl,_,_,rfl,_,_,rfl,_,_,rfl,rfl,?_⟩;generalize upd Hi u (.tup [V.str t.1,V.bl t.2.2.1,V.int t.2.2.2])=H2 at k2 ⊢;dsimp only;rw[fR,cH,cn];refine⟨_,rfl,_,rfl,_,_,rfl,rfl,_,rfl,S,xs,rfl,SqL.of (k2 _ _ hSi),fun p hp=>?_⟩;rw[show (((i:Nat):Int)+1)=(((i+1:Nat):Nat):Int) by lia,cF];have k3:=smu (o:=HO.lst (xs.drop (i+1))) hp;have hp3:(upd H2 p (.lst (xs.drop (i+1)))) p=some (.lst (xs.drop (i+1))):=pG;generalize upd H2 p (.lst (xs.drop (i+1)))=H3 at k3 hp3 ⊢;refine⟨p,rfl,⟨_,SqL.of hp3⟩,fun L hL=>?_⟩;refine b5.by (aK (xs:=xs.drop (i+1))) (fun j σ Hj=>aj H3 Hj∧(∃ ys,Hj L=some (.lst ys)∧ys.length≤j)∧∃ y,σ=[y,some (.str t.1)]) ⟨smu hL,⟨[],pG,Nat.le_refl _⟩,_,rfl⟩ (fun j σ Hj _ z=>SqL.of (z.1 _ _ hp3)) ?_ ?_
     · rintro j x σ Hj hxj ⟨sj,⟨ys,hLj,hyl⟩,y,rfl⟩;rw[List.getElem?_drop] at hxj;obtain⟨d',hd',htd'⟩:=hxs.get hxj;rw[gEM] at hd';obtain⟨t',ht',rfl⟩:=oMS.mp hd';obtain⟨a',rfl,ha'⟩:=dD htd';have hj:i+1+j<xs.length:=(gES.mp hxj).1;rw[aY];refine⟨_,rfl,a',_,0,_,rfl,rfl,sj.seqT (k3.seqT (k2.seqT (sm.seqT ha'))),c0,_,rfl,rfl,_,rfl,?_⟩;split
       · exact⟨_,rfl,ys,hLj,by lia,aD sj hL,⟨_,pG,by simp;assumption⟩,_,rfl⟩
       · exact⟨sj,⟨ys,hLj,(by lia)⟩,_,rfl⟩
     · rintro σ Hj ⟨sj,⟨ys,hLj,_⟩,y,rfl⟩;have S4:aj Hi Hj:=k2.trans (k3.trans sj);refine⟨_,rfl,f9,fun e0 he=>?_⟩;have k5:=smu (o:=HO.lst []) he;refine⟨L,e0,ys,rfl,rfl,SqL.of (k5 _ _ hLj),SqL.of pG,_,rfl,?_⟩;have S5:=S4.trans k5;generalize upd Hj e0 (.lst [])=H5 at k5 S5 ⊢;have hW5:=S5 _ _ hWi;have st5:=st.same (sm.trans S5);have fin0:∀ σ8:St,(∃ x4 x5 x6 x7 x8,σ8=[some (.ref s),some (.ref S),some (.bl b),some (.ref W),x4,x5,x6,x7,x8])→aj H H5∧(∃ (zs:List V) (ts:List (Str×Int×Bool×Int)),H5 W=some (.lst zs)∧TDs K H5 zs (ts.map dSe)∧ts.length≤i+1∧∀ t∈ts,t∈sv)∧∃ x4 x5 x6 x7 x8,σ8=[some (.ref s),some (.ref S),some (.bl b),some (.ref W),x4,x5,x6,x7,x8] :=
        fun σ8 h8=>⟨sm.trans S5,⟨zs,ts,hW5,hts.same S5,(by lia),hmem⟩,h8⟩
       have hzl:=hts.length;rw[lMp] at hzl;have fin1:aj H (upd H5 W (.lst (zs++[V.ref a])))∧(∃ (zs':List V) (ts:List (Str×Int×Bool×Int)),(upd H5 W (.lst (zs++[V.ref a]))) W=some (.lst zs')∧TDs K (upd H5 W (.lst (zs++[V.ref a]))) zs' (ts.map dSe)∧ts.length≤i+1∧∀ t∈ts,t∈sv):=by
        refine⟨aD (sm.trans S5) hW,_,ts++[t],pG,?_,by simp;assumption,fun x hx=>(mAp.mp hx).elim (hmem x) fun z=>by rw[mSg.mp z];exact mGE ht⟩;rw[List.map_append];rw[ea] at htd;exact ((hts.same S5).snoc (htd.same (sm.trans S5))).tk (aZ (.inr ⟨_,hW5⟩))
       have yes:∀ σ8:St,σ8=[some (.ref s),some (.ref S),some (.bl b),some (.ref W),some (.int ((i:Nat):Int)),some (.str t.1),some (.bl t.2.2.1),some (.int t.2.2.2),some (.ref L)]→oP (tBM K "list" jl (d9 3) (cR (tOp (sB K) (d9 1) (d9 4)) je)) {nx:=N_,rt:=Q,bk:=B_,ct:=N_} σ8 H5:=by
        rintro σ8 rfl;exact⟨_,rfl,.inl ⟨rfl,_,SqL.of hW5⟩,_,rfl,_,rfl,S,xs,_,_,rfl,rfl,SqL.of (S5 _ _ hSi),ati,W,zs,_,rfl,rfl,hW5,by lia,hN_ _ _ ⟨fin1.1,fin1.2,_,_,_,_,_,rfl⟩⟩
       cases ys.isEmpty with
       | false=>exact aU (aU (hN_ _ _ (fin0 _ ⟨_,_,_,_,_,rfl⟩)))
       | true =>
        refine bj ⟨_,rfl,_,rfl,?_⟩;cases hv:t.2.2.1 with
        | false =>
         refine bj (bj ⟨_,rfl,_,rfl,aU ⟨_,rfl,_,rfl,?_⟩⟩);cases b with
         | false=>exact bj (yes _ (by rw[hv];rfl))
         | true=>exact aU (hN_ _ _ (fin0 _ ⟨_,_,_,_,_,rfl⟩))
        | true =>
         refine aU ⟨_,rfl,_,rfl,s,_,rfl,st5.get hfu,rfl,_,rfl,?_⟩;split
         · exact⟨_,rfl,_,rfl,bj (bj (yes _ (by rw[hv];rfl)))⟩
         · exact aU (hN_ _ _ (fin0 _ ⟨_,_,_,_,_,rfl⟩))
   · rintro σ Hi ⟨sm,⟨zs,ts,hWi,hts,htl,hmem⟩,x4,x5,x6,x7,x8,rfl⟩;rw[bp,hxl] at htl;exact⟨_,rfl,q W zs ts Hi sm hW hWi hts htl hmem⟩
end
structure Frm where
  part:Int
  head:Str
  sort:Str
  name:Str
  inner:Addr
  inn:List Str
  number:Int
structure iq (H:Hp) (f:Addr) (fm:Frm):Prop where
  st:∃ m:Str→Option V,StV H f 20 m∧m "part"=some (.int fm.part)∧m "head"=some (.str fm.head)∧m "sort"=some (.str fm.sort)∧m "name"=some (.str fm.name)∧m "inner"=some (.ref fm.inner)∧m "number"=some (.int fm.number)
  inn:H fm.inner=some (.lst (fm.inn.map V.str))
theorem iq.same {H H':Hp} {f:Addr} {fm:Frm} (h:iq H f fm) (e:aj H H'):iq H' f fm:=by
 obtain⟨⟨m,st,r⟩,i⟩:=h;exact⟨⟨m,st.same e,r⟩,e _ _ i⟩
abbrev FL:=List (Addr×Frm)
def FsV (H:Hp) (fl:FL):Prop:=∀ x∈fl,iq H x.1 x.2
theorem FsV.same {H H':Hp} {fl:FL} (h:FsV H fl) (e:aj H H'):FsV H' fl:=fun x hx=>(h x hx).same e
section
variable {P:Program} {w:World} {K:Fg} {mg:SOV} {base:Heap}
abbrev sMt:Stmt:=top 21
def fits (so nm:Str) (x:Addr×Frm):Bool:=decide (x.2.sort=so)&&decide (x.2.name=nm)
def own (pt:Int) (x:Addr×Frm):Bool:=decide (x.2.part=pt)
def mtL (pt:Int) (so nm:Str) (fl:FL):FL:=(fl.filter (fits so nm)).filter (own pt)++fl.filter (fits so nm)
inductive uw (K:Fg) (vs:List V) (H:Hp) (Q:VK):Prop
  | mk (s fo:Addr) (n:Nat) (m:Str→Option V) (pt:Int) (so nm:Str) (fl:FL) (g0_:vs=[.ref s,.int pt,.str so,.str nm]) (g1_:StV H s n m) (g2_:m "forms"=some (.ref fo)) (g3_:H fo=some (.lst (fl.map fun x=>V.ref x.1))) (g4_:FsV H fl) (g5_:fl.length≤1000) (g6_:(∃ x∈fl,fits so nm x=true)) (g7_:∀ x H',x∈fl→fits so nm x=true→(mtL pt so nm fl).head?=some x→aj H H'→Q (.ref x.1) H'):uw K vs H Q
def xE (K:Fg):Sp:=fun vs H Q _=>uw K vs H Q
theorem ye:ax ["_law_state","_law_part","_law_sort","_law_name_here","_law_some_here","_law_own"] ["_law_state","_law_part","_law_sort","_law_name_here"] (a9 sMt):=fsM
theorem Bs:(["_law_form_here","_law_sort","_law_name_here"]:List Str).Nodup:=by decide +kernel
theorem Bt:(["_law_form_here","_law_part"]:List Str).Nodup:=by decide +kernel
theorem di {fl:FL} {i:Nat} {x:Addr×Frm} (p:Addr×Frm→Bool) (h:fl[i]?=some x):(fl.take (i+1)).filter p=(fl.take i).filter p++(if p x then [x] else []):=by
 rw[tAO,h,List.filter_append];congr 1;show List.filter p [x]=_;rw[List.filter_cons];cases p x <;> rfl
theorem zf (D:Def K mg "_law_meant" sMt):Fn P w K mg base "_law_meant" 1 ["_law_state","_law_part","_law_sort","_law_name_here"] (xE K):=by
 refine D.fn ye (fun vs H Q E h=>?_) (fun _ _ _ _ _ _ us hl=>by obtain⟨a,b,c,d,rfl⟩:∃ a b c d,us=[a,b,c,d]:=(by
     cases us with
     | nil=>cases hl
     | cons a r=>obtain⟨b,c,d,rfl⟩:=gs (Nat.succ.inj hl);exact⟨a,b,c,d,rfl⟩);rfl) (fun f cdv Ar outer s' H vs Q E hr h=>?_)
 · obtain⟨s,fo,n,m,pt,so,nm,fl,rfl,_⟩:=h;rfl
 · obtain⟨s,fo,n,m,pt,so,nm,fl,rfl,st,hfo,hF,hfs,hfl,hex,q⟩:=h;have nd:=ye.nd;have hu:=bS hr;have hz0:(1000000:Nat)<sizeLine:=by decide
   refine⟨_,(pE (gc (i0:=4) (own:=["_law_form_here"]) (outs:=[(2,"_law_sort"),(3,"_law_name_here")]) rfl (aL.of (a9 sMt) ["_law_state","_law_part","_law_sort","_law_name_here","_law_some_here","_law_own"]) (bq (pM hu (pv 0) pD (fun _ _=>rfl))) (fun _ _ _ _=>⟨(ao (i:=0) Bs rfl (Or.inl rfl)),(cC (PW.pt (b6 (pO aT (pM hu (pv 0) pD (fun _ _=>rfl)) (pv 1) (pP _)) (bh (pO aT (pM hu (pv 0) pD (fun _ _=>rfl)) (pv 2) (pP _)))))),(pv 0)⟩) nd rfl rfl)
 (pE (gc (i0:=5) (own:=["_law_form_here"]) (outs:=[(1,"_law_part")]) rfl (aL.of (a9 sMt) ["_law_state","_law_part","_law_sort","_law_name_here","_law_some_here","_law_own"]) (bq (pv 4)) (fun _ _ _ _=>⟨(ao (i:=0) Bt rfl (Or.inl rfl)),(cC (pO aT (pM hu (pv 0) pD (fun _ _=>rfl)) (pv 1) (pP _))),(pv 0)⟩) nd rfl rfl)
 (pI (au (am aG (aC fF (pv 5) (pv 4)) pH (fun _ _=>rfl)))))),?_⟩
   dsimp only[bC,bH,bG];rw[fR,cH,cn];refine⟨_,rfl,s,_,rfl,st.get hfo,fo,rfl,⟨_,SqL.of hF⟩,fun L hL=>?_⟩;refine b5.by (aK (xs:=fl.map fun x=>V.ref x.1)) (fun j σ Hj=>aj H Hj∧Hj L=some (.lst (((fl.take j).filter (fits so nm)).map fun x=>V.ref x.1))∧∃ y,σ=[y,some (.str so),some (.str nm)]) ⟨smu hL,pG,_,rfl⟩ (fun j σ Hj _ z=>SqL.of (z.1 _ _ hF)) ?_ ?_
   · rintro j x σ Hj hxj ⟨sj,hLj,y,rfl⟩;rw[gEM] at hxj;obtain⟨fx,hfx,rfl⟩:=oMS.mp hxj;obtain⟨⟨mf,stf,f1,f2,f3,f4,f5,f6⟩,_⟩:=(hfs fx (mGE hfx)).same sj;have hstep:=di (fits so nm) hfx;have hlen:((fl.take j).filter (fits so nm)).length≤1000:=Nat.le_trans (List.length_filter_le _ _) (by rw[lTk];lia);rw[aY];refine⟨_,rfl,fx.1,_,rfl,stf.get f3,_,rfl,rfl,_,rfl,?_⟩;have no:fits so nm fx=false→(aj H Hj∧Hj L=some (.lst (((fl.take (j+1)).filter (fits so nm)).map fun x=>V.ref x.1))∧∃ y,([some (.ref fx.1),some (.str so),some (.str nm)]:St)=[y,some (.str so),some (.str nm)]):=fun hf =>
      ⟨sj,by rw[hstep,hf];simpa using hLj,_,rfl⟩
     by_cases h1:fx.2.sort=so
     · refine pL (by simp[h1]) ?_;refine⟨_,rfl,fx.1,_,rfl,stf.get f4,_,rfl,rfl,_,rfl,?_⟩;by_cases h2:fx.2.name=nm
       · have hf:fits so nm fx=true:=by unfold fits;simp[h1,h2]
         exact pL (by simp[h2]) ⟨_,rfl,_,hLj,by rw[lMp];lia,aD sj hL,by rw[pG,hstep,hf];simp,_,rfl⟩
       · exact pK (by simp[h2]) (no (by unfold fits;simp[h2]))
     · exact pK (by simp[h1]) (aU (no (by unfold fits;simp[h1])))
   · rintro σ Hj ⟨sj,hLj,y,rfl⟩;rw[lMp,List.take_length] at hLj;rw[aY];dsimp only;rw[fR,cH,cn];have hsub:∀ x∈fl.filter (fits so nm),x∈fl∧fits so nm x=true:=fun x hx=>List.mem_filter.mp hx;have hfl2:(fl.filter (fits so nm)).length≤1000:=Nat.le_trans (List.length_filter_le _ _) hfl;have hne2:fl.filter (fits so nm)≠[]:=by
      obtain⟨x,hx,hf⟩:=hex;exact List.ne_nil_of_mem (List.mem_filter.mpr ⟨hx,hf⟩)
     have hq:∀ x H',x∈fl→fits so nm x=true→((fl.filter (fits so nm)).filter (own pt)++fl.filter (fits so nm)).head?=some x→aj H H'→Q (.ref x.1) H':=q;generalize fl.filter (fits so nm)=sl at hLj hsub hfl2 hne2 hq ⊢;refine⟨_,rfl,L,rfl,⟨_,SqL.of hLj⟩,fun M hM=>?_⟩;refine b5.by (aK (xs:=sl.map fun x=>V.ref x.1)) (fun j σ Hk=>aj Hj Hk∧Hk M=some (.lst (((sl.take j).filter (own pt)).map fun x=>V.ref x.1))∧∃ y,σ=[y,some (.int pt)]) ⟨smu hM,pG,_,rfl⟩ (fun j σ Hk _ z=>SqL.of (z.1 _ _ hLj)) ?_ ?_
     · rintro j x σ Hk hxj ⟨sk,hMk,y,rfl⟩;have hjl:j<sl.length:=by have:=(gES.mp hxj).1;rwa [lMp] at this
       rw[gEM] at hxj;obtain⟨fx,hfx,rfl⟩:=oMS.mp hxj;have hm:=mGE hfx;obtain⟨⟨mf,stf,f1,f2,f3,f4,f5,f6⟩,_⟩:=(hfs fx (hsub fx hm).1).same (sj.trans sk);rw[aY];have hstep:=di (own pt) hfx;have hlen:((sl.take j).filter (own pt)).length≤1000:=Nat.le_trans (List.length_filter_le _ _) (by rw[lTk];lia);refine⟨_,rfl,fx.1,_,rfl,stf.get f1,_,rfl,rfl,_,rfl,?_⟩;by_cases h1:fx.2.part=pt
       · have ho:own pt fx=true:=by unfold own;simp[h1]
         exact pL (by simp[h1]) ⟨_,rfl,_,hMk,by rw[lMp];lia,aD sk hM,by rw[pG,hstep,ho];simp,_,rfl⟩
       · have ho:own pt fx=false:=by unfold own;simp[h1]
         exact pK (by simp[h1]) ⟨sk,by rw[hstep,ho];simpa using hMk,_,rfl⟩
     · rintro σ Hk ⟨sk,hMk,y,rfl⟩;rw[lMp,List.take_length] at hMk;have hol:(sl.filter (own pt)).length≤sl.length:=List.length_filter_le _ _;have hos:∀ x∈sl.filter (own pt),x∈sl:=fun x hx=>(List.mem_filter.mp hx).1;generalize hde:sl.filter (own pt)=ol at hMk hol hos;rw[hde] at hq;refine⟨_,rfl,_,rfl,M,L,_,_,rfl,rfl,SqL.of hMk,SqL.of (sk _ _ hLj),by simp;lia,fun F hF'=>?_⟩;have k5:=smu (o:=HO.lst ((ol.map fun x=>V.ref x.1)++sl.map fun x=>V.ref x.1)) hF';obtain⟨x,cK,hxr⟩:∃ x cK,ol++sl=x::cK:=by
        cases h:ol++sl with
        | nil=>exact absurd (List.append_eq_nil_iff.mp h).2 hne2
        | cons x cK=>exact⟨x,cK,rfl⟩
       have hxm:x∈sl:=by
        have:x∈ol++sl:=by rw[hxr];exact mCS
        rcases mAp.mp this with z | z
        · exact hos x z
        · exact z
       refine⟨F,_,0,.ref x.1,rfl,rfl,SqL.of pG,pJ (j:=0) ?_,hq x _ (hsub x hxm).1 (hsub x hxm).2 (by rw[hxr];rfl) (sj.trans (sk.trans k5))⟩;rw[← List.map_append,hxr];rfl
end
def tq:Stmt→List Stmt
  | .For _ _ b _ _=>b
  | _=>[]
def chF (hd:Str) (fn:Int) (x:Addr×Frm):Bool:=(!decide (x.2.head="open"))&&!(decide (x.2.head="function")&&(decide (hd="function")&&decide (fn≤x.2.number)))
def chG (pt:Int) (so:Str) (fl:FL) (c:Bool) (x:Addr×Frm):Bool:=decide (x.2.sort=so)&&((c||decide (so="record"))&&((mtL pt so x.2.name fl).head?.any fun y=>decide (y.2.number=x.2.number)))
def chs (pt fn:Int) (hd so:Str) (fl:FL):FL:=fl.filter fun x=>chG pt so fl (chF hd fn x) x
section
variable {P:Program} {w:World} {K:Fg} {mg:SOV} {base:Heap}
abbrev sCo:Stmt:=top 22
inductive uJ (K:Fg) (vs:List V) (H:Hp) (Q:VK):Prop
  | mk (s fo:Addr) (n:Nat) (m:Str→Option V) (pt fn:Int) (so hd:Str) (fl:FL) (g0_:vs=[.ref s,.str so]) (g1_:StV H s n m) (g2_:m "forms"=some (.ref fo)) (g3_:m "part"=some (.int pt)) (g4_:m "function"=some (.int fn)) (g5_:m "head"=some (.str hd)) (g6_:H fo=some (.lst (fl.map fun x=>V.ref x.1))) (g7_:FsV H fl) (g8_:fl.length≤1000) (g9_:∀ (W:Addr) (H':Hp),aj H H'→H W=none→H' W=some (.lst ((chs pt fn hd so fl).map fun x=>V.ref x.1))→Q (.ref W) H'):uJ K vs H Q
def xM (K:Fg):Sp:=fun vs H Q _=>uJ K vs H Q
theorem yp:ax ["_law_state","_law_sort","_law_found","_law_form_here","_law_free_one"] ["_law_state","_law_sort"] (a9 sCo):=fsM
theorem lG {fl:FL} {i:Nat} {x:Addr×Frm} (p:Addr×Frm→Bool) (h:fl[i]?=some x):((fl.take (i+1)).filter p).map (fun x=>V.ref x.1)=((fl.take i).filter p).map (fun x=>V.ref x.1)++(if p x then [V.ref x.1] else []):=by
 rw[di p h,List.map_append];cases p x <;> rfl
theorem zy (D:Def K mg "_law_choices" sCo) (kY:Fn P w K mg base "_law_meant" 1 ["_law_state","_law_part","_law_sort","_law_name_here"] (xE K)):Fn P w K mg base "_law_choices" 2 ["_law_state","_law_sort"] (xM K):=by
 refine D.fn yp (fun vs H Q E h=>?_) (fun _ _ _ _ _ _ us hl=>by obtain⟨a,b,rfl⟩:=fW hl;rfl) (fun f cdv Ar outer s' H vs Q E hr h=>?_)
 · obtain⟨s,fo,n,m,pt,fn,so,hd,fl,rfl,_⟩:=h;rfl
 · obtain⟨s,fo,n,m,pt,fn,so,hd,fl,rfl,st,hfo,hpt,hfn,hhd,hF,hfs,hfl,q⟩:=h;have nd:=yp.nd;have hu:=bS hr;have hz0:(1000000:Nat)<sizeLine:=by decide
   obtain⟨t2,h2,q2⟩:∃ t,PSs (cE CX0 P w K mg base ["_law_state","_law_sort","_law_found","_law_form_here","_law_free_one"] "_law_choices" (a9 sCo) f cdv Ar outer s' H E).nox ((tq ((aQ sCo).getD 1 (.Pass ⟨0,0,0,0⟩))).drop 2) t ∧
    ∀ (D:dY) (c:Bool) (W:Addr) (fx:Addr×Frm) (Hi:Hp) (zs:List V),aj H Hi→fx∈fl→H W=none→Hi W=some (.lst zs)→zs.length≤1000 →
     (∀ H' σ',aj H H'→H' W=some (.lst (zs++if chG pt so fl c fx then [V.ref fx.1] else []))→(∃ x3 x4,σ'=[some (.ref s),some (.str so),some (.ref W),x3,x4])→D.nx σ' H')→t D [some (.ref s),some (.str so),some (.ref W),some (.ref fx.1),some (.bl c)] Hi:=by
    refine⟨_,(pI (aN (PW.pt (b6 (pO aT (pM hu (pv 3) pD (fun _ _=>rfl)) (pv 1) (pP _)) (bh (PW.pt (fw (cS (pv 4)) (dk (pO aT (pv 1) pD (pP _)))))))) (pI (aN (pO aT (pM hu (ac kY (hr.mono (by decide)) rfl (pA (pv 0) (pA (pM hu (pv 0) pD (fun _ _=>rfl)) (pA (pv 1) (pA (pM hu (pv 3) pD (fun _ _=>rfl)) pC))))) pD (fun _ _=>rfl)) (pM hu (pv 3) pD (fun _ _=>rfl)) (pP _)) (pI (ak (aV (pv 2) (pA (pv 3) pC)))) aF)) aF)),fun D c W fx Hi zs sm hm hW hWi hzl k=>?_⟩;obtain⟨⟨mf,stf,f1,f2,f3,f4,f5,f6⟩,_⟩:=(hfs fx hm).same sm;have sti:=st.same sm;have no:chG pt so fl c fx=false→∀ σ' H',aj Hi H'→(∃ x3 x4,σ'=[some (.ref s),some (.str so),some (.ref W),x3,x4])→D.nx σ' H':=fun hf σ' H' s' hσ=>k H' σ' (sm.trans s') (by rw[hf];simpa using s' _ _ hWi) hσ;refine⟨_,rfl,fx.1,_,rfl,stf.get f3,_,rfl,rfl,_,rfl,?_⟩;by_cases h1:fx.2.sort=so
    · refine pL (by simp[h1]) ?_;refine⟨_,rfl,_,rfl,?_⟩;cases c with
      | true =>
       refine bj (bj ?_);refine⟨_,rfl,_,rfl,s,_,rfl,sti.get hpt,_,rfl,_,rfl,fx.1,_,rfl,stf.get f4,s,fo,n,m,pt,so,fx.2.name,fl,rfl,sti,hfo,sm _ _ hF,hfs.same sm,hfl,⟨fx,hm,by unfold fits;simp[h1]⟩,fun x H' hx hf hmt s'=>?_⟩;obtain⟨⟨mx,stx,_,_,_,_,_,g6⟩,_⟩:=(hfs x hx).same (sm.trans s');refine⟨x.1,_,rfl,stx.get g6,_,rfl,fx.1,_,rfl,(stf.same s').get f6,rfl,_,rfl,?_⟩;have hW':=s' _ _ hWi;by_cases h3:x.2.number=fx.2.number
       · have hy:chG pt so fl true fx=true:=by unfold chG;rw[hmt];simp[h1,h3]
         refine pL (by simp[h3]) ⟨_,rfl,.inl ⟨rfl,_,SqL.of hW'⟩,_,rfl,W,_,_,rfl,rfl,hW',(by lia),?_⟩;exact k _ _ (aD (sm.trans s') hW) (by rw[hy];exact pG) ⟨_,_,rfl⟩
       · exact pK (by simp[h3]) (no (by unfold chG;rw[hmt];simp[h3]) _ _ s' ⟨_,_,rfl⟩)
      | false =>
       refine aU ⟨_,rfl,rfl,_,rfl,?_⟩;by_cases h2:so="record"
       · refine pL (by simp[h2]) ?_;refine⟨_,rfl,_,rfl,s,_,rfl,sti.get hpt,_,rfl,_,rfl,fx.1,_,rfl,stf.get f4,s,fo,n,m,pt,so,fx.2.name,fl,rfl,sti,hfo,sm _ _ hF,hfs.same sm,hfl,⟨fx,hm,by unfold fits;simp[h1]⟩,fun x H' hx hf hmt s'=>?_⟩;obtain⟨⟨mx,stx,_,_,_,_,_,g6⟩,_⟩:=(hfs x hx).same (sm.trans s');refine⟨x.1,_,rfl,stx.get g6,_,rfl,fx.1,_,rfl,(stf.same s').get f6,rfl,_,rfl,?_⟩;have hW':=s' _ _ hWi;by_cases h3:x.2.number=fx.2.number
         · have hy:chG pt so fl false fx=true:=by unfold chG;rw[hmt];simp[h1,h3,h2]
           refine pL (by simp[h3]) ⟨_,rfl,.inl ⟨rfl,_,SqL.of hW'⟩,_,rfl,W,_,_,rfl,rfl,hW',(by lia),?_⟩;exact k _ _ (aD (sm.trans s') hW) (by rw[hy];exact pG) ⟨_,_,rfl⟩
         · exact pK (by simp[h3]) (no (by unfold chG;rw[hmt];simp[h3]) _ _ s' ⟨_,_,rfl⟩)
       · exact pK (by simp[h2]) (no (by unfold chG;simp[h2]) _ _ (aj.refl _) ⟨_,_,rfl⟩)
    · exact pK (by simp[h1]) (aU (no (by unfold chG;simp[h1]) _ _ (aj.refl _) ⟨_,_,rfl⟩))
   refine⟨_,(pE (pN (i:=2) nd rfl (Or.inl rfl) (ag pC))
 (pE (bx PassesOwn.never rfl (bq (pM hu (pv 0) pD (fun _ _=>rfl))) (ao (i:=3) nd rfl (Or.inl rfl))
 (pE (pN (i:=4) nd rfl (Or.inl rfl) (mC yK (pM hu (pv 3) pD (fun _ _=>rfl)) pD (pP _)))
 (pE (aN (PW.pt (b6 (pO aT (pM hu (pv 3) pD (fun _ _=>rfl)) pD (pP _)) (b6 (pO aT (pM hu (pv 0) pD (fun _ _=>rfl)) pD (pP _)) (bh (pO tZ (pM hu (pv 3) pD (fun _ _=>rfl)) (pM hu (pv 0) pD (fun _ _=>rfl)) (pP _)))))) (pI (pN (i:=4) nd rfl (Or.inl rfl) fC)) aF) h2)))
 (pI (au (pv 2))))),?_⟩
   dsimp only[bC,bH,bG];refine⟨f9,fun W hW=>?_⟩;have k1:=smu (o:=HO.lst []) hW;have hW1:(upd H W (.lst [])) W=some (.lst []):=pG;generalize upd H W (.lst [])=H1 at k1 hW1 ⊢;refine⟨_,rfl,s,_,rfl,(st.same k1).get hfo,fo,rfl,⟨_,SqL.of (k1 _ _ hF)⟩,?_⟩;show aA _ _ _ _ _ _;refine aA.byN (aK (xs:=fl.map fun x=>V.ref x.1)) (fun i σ Hi=>aj H Hi∧Hi W=some (.lst (((fl.take i).filter fun x=>chG pt so fl (chF hd fn x) x).map fun x=>V.ref x.1))∧∃ x3 x4,σ=[some (.ref s),some (.str so),some (.ref W),x3,x4])
    ⟨k1,hW1,_,_,rfl⟩ (fun i σ Hi _ z=>SqL.of (z.1 _ _ hF)) ?_ ?_
   · rintro i x σ Hi N_ B_ hN_ hB_ hxi ⟨sm,hWi,x3,x4,rfl⟩;have hin:i<fl.length:=by have:=(gES.mp hxi).1;rwa [lMp] at this
     rw[gEM] at hxi;obtain⟨fx,hfx,rfl⟩:=oMS.mp hxi;have hm:=mGE hfx;obtain⟨⟨mf,stf,f1,f2,f3,f4,f5,f6⟩,_⟩:=(hfs fx hm).same sm;have sti:=st.same sm;have hstep:=lG (fun x=>chG pt so fl (chF hd fn x) x) hfx;have hlen:(((fl.take i).filter fun x=>chG pt so fl (chF hd fn x) x).map fun x=>V.ref x.1).length≤1000:=by
      rw[lMp];exact Nat.le_trans (List.length_filter_le _ _) (by rw[lTk];lia)
     refine⟨_,rfl,fx.1,_,rfl,stf.get f2,rfl,?_⟩;refine⟨_,rfl,fx.1,_,rfl,stf.get f2,rfl,_,rfl,?_⟩;by_cases g1:fx.2.head="function"
     · refine pL (by simp[g1]) ⟨_,rfl,s,_,rfl,sti.get hhd,rfl,_,rfl,?_⟩;by_cases g2:hd="function"
       · refine pL (by simp[g2]) ⟨_,rfl,fx.1,_,rfl,stf.get f6,_,rfl,s,_,rfl,sti.get hfn,_,_,rfl,rfl,_,rfl,?_⟩;by_cases g3:fn≤fx.2.number
         · refine pL (by simp[g3]) ?_;have e:chF hd fn fx=false:=by unfold chF;simp[g1,g2,g3]
           exact q2 _ false W fx Hi _ sm hm hW hWi hlen fun H' σ' s' h' hσ=>hN_ _ _ ⟨s',by rw[hstep,e];exact h',hσ⟩
         · refine pK (by simp only[decide_eq_true_eq];exact g3) ?_;have e:chF hd fn fx=!(decide (V.str fx.2.head=V.str "open")):=by unfold chF;simp[g3]
           exact q2 _ _ W fx Hi _ sm hm hW hWi hlen fun H' σ' s' h' hσ=>hN_ _ _ ⟨s',by rw[hstep,e];exact h',hσ⟩
       · refine pK (by simp[g2]) (aU ?_);have e:chF hd fn fx=!(decide (V.str fx.2.head=V.str "open")):=by unfold chF;simp[g2]
         exact q2 _ _ W fx Hi _ sm hm hW hWi hlen fun H' σ' s' h' hσ=>hN_ _ _ ⟨s',by rw[hstep,e];exact h',hσ⟩
     · refine pK (by simp[g1]) (aU ?_);have e:chF hd fn fx=!(decide (V.str fx.2.head=V.str "open")):=by unfold chF;simp[g1]
       exact q2 _ _ W fx Hi _ sm hm hW hWi hlen fun H' σ' s' h' hσ=>hN_ _ _ ⟨s',by rw[hstep,e];exact h',hσ⟩
   · rintro σ Hi ⟨sm,hWi,x3,x4,rfl⟩;rw[lMp,List.take_length] at hWi;exact⟨_,rfl,q W Hi sm hW hWi⟩
end
structure Ctx where
  A:Adr
  n:Nat
  ns:List Int
  fo:Addr
  fl:FL
  p:Nat
  r:Addr
  fn:Nat
  hd:Str
structure FE (H:Hp) (C:Ctx):Prop where
  fv:H C.fo=some (.lst (C.fl.map fun x=>V.ref x.1))
  fs:FsV H C.fl
  le:C.fl.length≤1000
  nfo:C.fo∉C.A.rs
  nf:∀ x∈C.fl,x.1≠C.A.s∧x.2.inner∉C.A.rs
  inn:∀ x∈C.fl,x.2.inn.length≤4∧(x.2.sort="record"→0<x.2.inn.length)
structure SM (C:Ctx) (m:Str→Option V):Prop where
  pt:m "part"=some (.int ((C.p:Nat):Int))
  fn:m "function"=some (.int ((C.fn:Nat):Int))
  hd:m "head"=some (.str C.hd)
  nx:∃ i,m "next"=some (.int i)
  fu:∃ i,m "funs"=some (.int i)
  lf:∃ i,m "left"=some (.int i)
  fo:m "forms"=some (.ref C.fo)
structure SX (P:Program) (w:World) (K:Fg) (H:Hp) (C:Ctx) (N:Nat) (skv:NKV):Prop where
  ex:∃ m k B,SI P w K H C.A C.n m C.ns k B skv∧k≤((N:Nat):Int)∧B≤N∧SM C m
  rr:C.A.rs[C.p]?=some C.r
  fe:FE H C
theorem SM.put {C:Ctx} {m:Str→Option V} (x:SM C m) {y:Str} {i:Int} (hy:y="k"∨y="next"∨y="funs"∨y="left"):SM C (aH m y (.int i)):=by
 have e:∀ z:Str,z≠y→aH m y (.int i) z=m z:=fun z hz=>ah m _ hz;have f:∀ z:Str,(∃ j,m z=some (.int j))→∃ j,aH m y (.int i) z=some (.int j):=fun z hz=>by
  by_cases h:z=y
  · subst h;exact⟨i,bn _ _ _⟩
  · rw[e z h];exact hz
 have ne:("part":Str)≠y∧("function":Str)≠y∧("head":Str)≠y∧("forms":Str)≠y:=by
  rcases hy with rfl | rfl | rfl | rfl <;> decide +kernel
 exact⟨by rw[e _ ne.1];exact x.pt,by rw[e _ ne.2.1];exact x.fn,by rw[e _ ne.2.2.1];exact x.hd,f _ x.nx,f _ x.fu,f _ x.lf,by rw[e _ ne.2.2.2];exact x.fo⟩
section
variable {P:Program} {w:World} {K:Fg} {H H':Hp} {A:Adr} {n:Nat} {m:Str→Option V} {ns:List Int} {k:Int} {B:Nat} {skv:NKV}
theorem SI.kp (x:SI P w K H A n m ns k B skv) (kp:ae A H H') {b:Addr} {o:HO} (h:H b=some o) (h1:b≠A.s) (h2:b∉A.rs) (h3:∀ kv,o≠.dT kv) (h4:∀ φ,o≠.ext φ):H' b=some o:=by
 obtain⟨kt,ht,_⟩:=x.tv;obtain⟨kn,hn,_⟩:=x.nv;obtain⟨ke,he,_⟩:=x.ev;refine kp b o h1 h2 (fun e=>?_) (fun e=>?_) (fun e=>?_) (fun e=>?_) h
 · rw[e,ht] at h;exact h3 _ (Option.some.inj h).symm
 · rw[e,hn] at h;exact h3 _ (Option.some.inj h).symm
 · rw[e,x.sv] at h;exact h4 _ (Option.some.inj h).symm
 · rw[e,he] at h;exact h4 _ (Option.some.inj h).symm
theorem SI.kL (x:SI P w K H A n m ns k B skv) (kp:ae A H H') {b:Addr} {xs:List V} (h:H b=some (.lst xs)) (h2:b∉A.rs):H' b=some (.lst xs) :=
 x.kp kp h (x.sne h fun _ z=>nomatch z) h2 (fun _ z=>nomatch z) (fun _ z=>nomatch z)
theorem SI.nrs (x:SI P w K H A n m ns k B skv) {b:Addr} {o:HO} (h:H b=some o) (hd:∀ ys,o≠.lst ys):b∉A.rs:=fun e=>by
 obtain⟨ws,h1,_⟩:=x.rw b e;rw[h1] at h;exact hd _ (Option.some.inj h).symm
theorem SI.kD (x:SI P w K H A n m ns k B skv) (kp:ae A H H') {b:Addr} {kvs:List (Key×V)} (h:H b=some (.dK kvs)) (h1:b≠A.s):H' b=some (.dK kvs) :=
 x.kp kp h h1 (x.nrs h fun _ z=>nomatch z) (fun _ z=>nomatch z) (fun _ z=>nomatch z)
theorem SI.new (x:SI P w K H A n m ns k B skv) {b:Addr} (h:H b=none):b∉A.rs:=fun e=>by
 obtain⟨ws,h1,_⟩:=x.rw b e;rw[h1] at h;cases h
theorem SI.tk (x:SI P w K H A n m ns k B skv) (kp:ae A H H'):Tk H H':=fun b xs h=>by
 rcases h with h | ⟨o,h⟩
 · exact .inl (ae.tk x kp b xs h)
 · exact .inr ⟨o,x.kp kp h (x.sne h fun _ z=>nomatch z) (x.nrs h fun _ z=>nomatch z) (fun _ z=>nomatch z) (fun _ z=>nomatch z)⟩
theorem SI.smf (x:SI P w K H A n m ns k B skv) {m':Str→Option V} {k':Int} (sm:Smf A.s H H') (pk':Pk K H' A.s n m' A.a ns k') (e1:m' "rows"=m "rows") (e2:m' "things"=m "things") (e3:m' "nodes"=m "nodes") (e4:m' "spans"=m "spans") (e5:m' "seen"=m "seen"):SI P w K H' A n m' ns k' B skv:=by
 have kp:∀ {b:Addr} {o:HO},H b=some o→(∀ kvs,o≠.dK kvs)→H' b=some o:=fun {b o} h hd=>sm b o (x.sne h hd) h;have kt:∀ c ys,H c=some (.tup ys)→H' c=some (.tup ys):=fun c ys h=>kp h fun kvs z=>nomatch z;exact
 { pk:=pk'
   al:=x.al.imp_right fun ⟨b,hb⟩=>⟨b,sm _ _ x.pk.ne hb⟩
   ro:=by rw[e1];exact x.ro
   rv:=kp x.rv fun kvs z=>nomatch z
   rw:=fun r hr=>by obtain⟨ws,h1,h2⟩:=x.rw r hr;exact⟨ws,kp h1 (fun kvs z=>nomatch z),h2⟩
   rne:=x.rne
   ra:=x.ra
   th:=by rw[e2];exact x.th
   tv:=by obtain⟨kv,h1,h2⟩:=x.tv;exact⟨kv,kp h1 (fun kvs z=>nomatch z),h2⟩
   no:=by rw[e3];exact x.no
   nv:=by obtain⟨kv,h1,h2⟩:=x.nv;exact⟨kv,kp h1 (fun kvs z=>nomatch z),h2⟩
   sp:=by rw[e4];exact x.sp
   sv:=kp x.sv fun kvs z=>nomatch z
   sa:=x.sa.keep kt
   sl:=x.sl
   se:=by rw[e5];exact x.se
   ev:=by obtain⟨kv,h1,h2,h3⟩:=x.ev;exact⟨kv,kp h1 (fun kvs z=>nomatch z),h2.keep kt,h3⟩
   ne:=x.ne }
theorem SI.smk (x:SI P w K H A n m ns k B skv) {k':Int} (sm:Smf A.s H H') (pk':Pk K H' A.s n (aH m "k" (.int k')) A.a ns k'):SI P w K H' A n (aH m "k" (.int k')) ns k' B skv :=
 x.smf sm pk' (ah m _) (ah m _) (ah m _) (ah m _) (ah m _)
theorem ae.smf (sm:Smf A.s H H'):ae A H H':=fun b o h1 _ _ _ _ _ e=>sm b o h1 e
end
section
variable {P:Program} {w:World} {K:Fg} {H H':Hp} {C:Ctx} {N:Nat} {skv:NKV} {m:Str→Option V} {k:Int} {B:Nat}
theorem FE.keep (f:FE H C) (x:SI P w K H C.A C.n m C.ns k B skv) (kp:ae C.A H H'):FE H' C:=by
 refine⟨x.kL kp f.fv f.nfo,fun y hy=>?_,f.le,f.nfo,f.nf,f.inn⟩;obtain⟨⟨mf,⟨kvs,h1,h2⟩,r⟩,i⟩:=f.fs y hy;obtain⟨n1,n2⟩:=f.nf y hy;exact⟨⟨mf,⟨kvs,x.kD kp h1 n1,h2⟩,r⟩,x.kL kp i n2⟩
theorem SX.same (x:SX P w K H C N skv) (e:aj H H'):SX P w K H' C N skv:=by
 obtain⟨⟨m,k,B,si,r⟩,rr,fe⟩:=x;exact⟨⟨m,k,B,si.same e,r⟩,rr,fe.keep si (ae.of e)⟩
theorem SX.more (x:SX P w K H C N skv) {N':Nat} (h:N≤N'):SX P w K H C N' skv:=by
 obtain⟨⟨m,k,B,si,hk,hB,r⟩,rr,fe⟩:=x;exact⟨⟨m,k,B,si,(by lia),(by lia),r⟩,rr,fe⟩
theorem SX.tk (x:SX P w K H C N skv) (kp:ae C.A H H'):Tk H H':=by
 obtain⟨⟨m,k,B,si,r⟩,rr,fe⟩:=x;exact si.tk kp
theorem SX.kL (x:SX P w K H C N skv) (kp:ae C.A H H') {b:Addr} {xs:List V} (h:H b=some (.lst xs)) (h2:b∉C.A.rs):H' b=some (.lst xs):=by
 obtain⟨⟨m,k,B,si,r⟩,rr,fe⟩:=x;exact si.kL kp h h2
theorem SX.kT (x:SX P w K H C N skv) (kp:ae C.A H H') {b:Addr} {xs:List V} (h:H b=some (.tup xs)):H' b=some (.tup xs):=by
 obtain⟨⟨m,k,B,si,r⟩,rr,fe⟩:=x;exact ae.tk si kp b xs h
theorem SX.new (x:SX P w K H C N skv) {b:Addr} (h:H b=none):b∉C.A.rs:=by
 obtain⟨⟨m,k,B,si,r⟩,rr,fe⟩:=x;exact si.new h
theorem SX.getI (x:SX P w K H C N skv) {y:Str} (hy:y="next"∨y="funs"∨y="left"):∃ i,bO H C.A.s (.str y) (some (.int i)):=by
 obtain⟨⟨m,k,B,si,hk,hB,sm⟩,rr,fe⟩:=x
 rcases hy with rfl | rfl | rfl
 · obtain⟨i,h⟩:=sm.nx;exact⟨i,si.pk.st.get h⟩
 · obtain⟨i,h⟩:=sm.fu;exact⟨i,si.pk.st.get h⟩
 · obtain⟨i,h⟩:=sm.lf;exact⟨i,si.pk.st.get h⟩
theorem SX.putI (x:SX P w K H C N skv) {y:Str} (hy:y="next"∨y="funs"∨y="left") (i:Int):∃ H',dI H C.A.s (.str y) (.int i) H'∧ae C.A H H'∧SX P w K H' C N skv:=by
 obtain⟨⟨m,k,B,si,hk,hB,sm⟩,rr,fe⟩:=x;obtain⟨j,hj⟩:∃ j,m y=some (.int j):=by
  rcases hy with rfl | rfl | rfl
  · exact sm.nx
  · exact sm.fu
  · exact sm.lf
 obtain⟨H',dp,mo,st⟩:=si.pk.st.put hj (.int i) si.pk.hn;have nk:∀ {z:Str},z≠y→aH m y (.int i) z=m z:=fun {z} hz=>ah m _ hz;have ne:(("script":Str)≠y∧("k":Str)≠y)∧("rows":Str)≠y∧("things":Str)≠y∧("nodes":Str)≠y∧("spans":Str)≠y∧("seen":Str)≠y:=by
  rcases hy with rfl | rfl | rfl <;> decide +kernel
 have pk':Pk K H' C.A.s C.n (aH m y (.int i)) C.A.a C.ns k:=⟨st,si.pk.hn,by rw[nk ne.1.1];exact si.pk.sc,si.pk.ne,SqL.mo si.pk.sq mo si.pk.ne,si.pk.len,by rw[nk ne.1.2];exact si.pk.hk,si.pk.k0⟩;exact⟨H',dp,ae.mo mo,⟨_,_,_,si.put mo pk' (nk ne.2.1) (nk ne.2.2.1) (nk ne.2.2.2.1) (nk ne.2.2.2.2.1) (nk ne.2.2.2.2.2),hk,hB,sm.put (.inr hy)⟩,rr,fe.keep si (ae.mo mo)⟩
end
section
variable {P:Program} {w:World} {K:Fg} {mg:SOV} {base:Heap}
theorem Fn.weak {x:Str} {k:Nat} {ps:List Str} {sp sp':Sp} (F:Fn P w K mg base x k ps sp) (h:∀ vs H Q E,sp' vs H Q E→sp vs H Q E):Fn P w K mg base x k ps sp':=by
 obtain⟨f,fd,G,r⟩:=F.ex;exact⟨f,fd,⟨fun vs H Q E z=>G.len vs H Q E (h _ _ _ _ z),fun A outer s H args us vs Q E a b c d z=>G.run A outer s H args us vs Q E a b c d (h _ _ _ _ z)⟩,r⟩
inductive qY (P:Program) (w:World) (K:Fg) (vs:List V) (H:Hp) (Q:VK):Prop
  | mk (C:Ctx) (N:Nat) (skv:NKV) (many:Int) (g0_:vs=[.ref C.A.s,.int many]) (g1_:SX P w K H C N skv) (g2_:N<900000) (g3_:0<many) (g4_:∀ r H',0≤r→r<many→ae C.A H H'→SX P w K H' C (N+1) skv→Q (.int r) H'):qY P w K vs H Q
def fj (P:Program) (w:World) (K:Fg):Sp:=fun vs H Q _=>qY P w K vs H Q
theorem pkX (F:Fn P w K mg base "_law_pick" 2 ["_law_state","_law_many"] (iw K)):Fn P w K mg base "_law_pick" 2 ["_law_state","_law_many"] (fj P w K):=by
 refine Fn.weak F fun vs H Q E z=>?_;obtain⟨C,N,skv,many,e,x,hN,hm,q⟩:=z;obtain⟨⟨m,k,B,si,hk,hB,sm⟩,rr,fe⟩:=x;exact⟨C.A.s,C.A.a,C.n,m,C.ns,k,many,e,si.pk.st,si.pk.hn,si.pk.sc,si.pk.ne,si.pk.sq,si.pk.len,si.pk.hk,si.pk.k0,(by lia),hm,fun r H' r0 r1 mo st=>q r H' r0 r1 (ae.mo mo) ⟨⟨_,_,_,si.pick mo st,(by lia),(by lia),sm.put (.inl rfl)⟩,rr,fe.keep si (ae.mo mo)⟩⟩
inductive rc (P:Program) (w:World) (K:Fg) (vs:List V) (H:Hp) (Q:VK):Prop
  | mk (C:Ctx) (N:Nat) (skv:NKV) (L:Addr) (zs:List Str) (c:Nat) (g0_:vs=[.ref C.A.s,.ref L]) (g1_:zs.length=c) (g2_:SX P w K H C N skv) (g3_:H L=some (.lst (zs.map V.str))) (g4_:L∉C.A.rs) (g5_:N+c<900000) (g6_:∀ i H',ae C.A H H'→SX P w K H' C (N+c) skv→Q (.int i) H'):rc P w K vs H Q
def fk (P:Program) (w:World) (K:Fg):Sp:=fun vs H Q _=>rc P w K vs H Q
theorem lyX (F:Fn P w K mg base "_law_lay" 1 ["_law_state","_law_words"] (rX K)):Fn P w K mg base "_law_lay" 1 ["_law_state","_law_words"] (fk P w K):=by
 refine Fn.weak F fun vs H Q E z=>?_;obtain⟨C,N,skv,L,zs,c,e,rfl,x,hL,hLr,hN,q⟩:=z;obtain⟨⟨m,k,B,si,hk,hB,sm⟩,rr,fe⟩:=x;have hrm:C.r∈C.A.rs:=mGE rr;obtain⟨ws,hw,hwl⟩:=si.rw C.r hrm;refine⟨C.A.s,L,C.A.ro,C.r,C.n,m,C.p,C.A.rs,ws,zs,e,si.pk.st,si.ro,sm.pt,si.rv,rr,hw,hL,fun z=>hLr (z▸hrm),by lia,?_⟩;exact q _ _ (ae.laid hrm) ⟨⟨m,k,N+zs.length,(si.more (B':=N+zs.length) (by lia)).laid hrm (by rw[lAp];lia),(by lia),Nat.le_refl _,sm⟩,rr,fe.keep si (ae.laid hrm)⟩
inductive qW (P:Program) (w:World) (K:Fg) (vs:List V) (H:Hp) (Q:VK):Prop
  | mk (C:Ctx) (N:Nat) (skv:NKV) (i:Int) (x:V) (g0_:vs=[.ref C.A.s,.int i,x]) (g1_:SX P w K H C N skv) (g2_:N<900000) (g3_:∀ H',ae C.A H H'→SX P w K H' C (N+1) skv→Q .non H'):qW P w K vs H Q
def iO (P:Program) (w:World) (K:Fg):Sp:=fun vs H Q _=>qW P w K vs H Q
theorem tlX (F:Fn P w K mg base "_law_tell" 1 ["_law_state","_law_at","_law_thing"] (vh K)):Fn P w K mg base "_law_tell" 1 ["_law_state","_law_at","_law_thing"] (iO P w K):=by
 refine Fn.weak F fun vs H Q E z=>?_;obtain⟨C,N,skv,i,x,e,⟨⟨m,k,B,si,hk,hB,sm⟩,rr,fe⟩,hN,q⟩:=z;obtain⟨kv,hkv,hkl⟩:=si.tv;refine⟨C.A.s,C.A.th,C.n,m,_,i,x,kv,e,si.pk.st,si.th,sm.pt,hkv,(by lia),fun H' kv' s' h' hl'=>?_⟩;exact q _ (ae.told s') ⟨⟨m,k,B+1,si.told s' h' (by lia),(by lia),(by lia),sm⟩,rr,fe.keep si (ae.told s')⟩
inductive qZ (P:Program) (w:World) (K:Fg) (vs:List V) (H:Hp) (Q:VK):Prop
  | mk (C:Ctx) (N:Nat) (skv:NKV) (g0_:vs=[.ref C.A.s]) (g1_:SX P w K H C N skv) (g2_:N+2<900000) (g3_:∀ z H',z∈nms→ae C.A H H'→SX P w K H' C (N+2) skv→Q (.str z) H'):qZ P w K vs H Q
def mm (P:Program) (w:World) (K:Fg):Sp:=fun vs H Q _=>qZ P w K vs H Q
theorem nmX (F:Fn P w K mg base "_law_name" 3 ["_law_state"] (vi K)):Fn P w K mg base "_law_name" 3 ["_law_state"] (mm P w K):=by
 refine Fn.weak F fun vs H Q E z=>?_;obtain⟨C,N,skv,e,⟨⟨m,k,B,si,hk,hB,sm⟩,rr,fe⟩,hN,q⟩:=z;exact⟨C.A.s,C.A.a,C.n,m,C.ns,k,e,si.pk,(by lia),fun z H' hz s' p'=>q z H' hz (ae.smf s') ⟨⟨_,_,_,si.smk s' p',by lia,(by lia),sm.put (.inl rfl)⟩,rr,fe.keep si (ae.smf s')⟩⟩
inductive qV (P:Program) (w:World) (K:Fg) (vs:List V) (H:Hp) (Q:VK):Prop
  | mk (C:Ctx) (N:Nat) (skv:NKV) (O:Addr) (os:List Str) (most:Nat) (g0_:vs=[.ref C.A.s,.ref O,.int ((most:Nat):Int)]) (g1_:SX P w K H C N skv) (g2_:H O=some (.lst (os.map V.str))) (g3_:most≤100) (g4_:N+1+2*most<900000) (g5_:∀ (W:Addr) (zs:List Str) (H':Hp),zs.length≤most→(∀ z∈zs,z∈nms)→W∉C.A.rs→H' W=some (.lst (zs.map V.str))→ae C.A H H'→SX P w K H' C (N+1+2*most) skv→Q (.ref W) H'):qV P w K vs H Q
def oR (P:Program) (w:World) (K:Fg):Sp:=fun vs H Q _=>qV P w K vs H Q
theorem unX (F:Fn P w K mg base "_law_unlike" 4 ["_law_state","_law_others","_law_most"] (vg K)):Fn P w K mg base "_law_unlike" 4 ["_law_state","_law_others","_law_most"] (oR P w K):=by
 refine Fn.weak F fun vs H Q E z=>?_;obtain⟨C,N,skv,O,os,most,e,⟨⟨m,k,B,si,hk,hB,sm⟩,rr,fe⟩,hO,hm,hN,q⟩:=z;exact⟨C.A.s,C.A.a,O,C.n,m,C.ns,k,os,most,e,si.pk,si.al,by lia,hO,hm,fun W zs k' H' c1 c2 hz hzn hW hW' s' p'=>q W zs H' hz hzn (si.new hW) hW' (ae.smf s') ⟨⟨_,k',B,si.smk s' p',by lia,(by lia),sm.put (.inl rfl)⟩,rr,fe.keep si (ae.smf s')⟩⟩
inductive ri (P:Program) (w:World) (K:Fg) (vs:List V) (H:Hp) (Q:VK):Prop
  | mk (C:Ctx) (N:Nat) (skv:NKV) (z:Str) (b:Bool) (g0_:vs=[.ref C.A.s,.str z,.bl b]) (g1_:SX P w K H C N skv) (g2_:N<900000) (g3_:∀ v t H',ae C.A H H'→SX P w K H' C (N+1) skv→TD K H' v (dSe t)→Q v H'):ri P w K vs H Q
def iP (P:Program) (w:World) (K:Fg):Sp:=fun vs H Q _=>ri P w K vs H Q
theorem bdX (F:Fn P w K mg base "_law_bind" 2 ["_law_state","_law_name_here","_law_is_var"] (xO P w K)):Fn P w K mg base "_law_bind" 2 ["_law_state","_law_name_here","_law_is_var"] (iP P w K):=by
 refine Fn.weak F fun vs H Q E z=>?_;obtain⟨C,N,skv,z,b,e,⟨⟨m,k,B,si,hk,hB,sm⟩,rr,fe⟩,hN,q⟩:=z;obtain⟨nx,hnx⟩:=sm.nx;obtain⟨fu,hfu⟩:=sm.fu;exact⟨C.A,C.n,m,C.ns,k,B,skv,z,b,C.p,C.r,nx,_,fu,e,si,(by lia),sm.pt,rr,hnx,sm.fn,hfu,fun v H' kp s' td=>q v (z,nx,b,fu) H' kp ⟨⟨_,_,_,s',(by lia),(by lia),sm.put (.inr (.inl rfl))⟩,rr,fe.keep si kp⟩ td⟩
inductive r9 (P:Program) (w:World) (K:Fg) (vs:List V) (H:Hp) (Q:VK):Prop
  | mk (C:Ctx) (N:Nat) (skv:NKV) (g0_:vs=[.ref C.A.s]) (g1_:SX P w K H C N skv) (g2_:N+3<900000) (g3_:∀ v i H',ae C.A H H'→SX P w K H' C (N+3) skv→TD K H' v (.tuple [.str "number",.int i])→Q v H'):r9 P w K vs H Q
def mn (P:Program) (w:World) (K:Fg):Sp:=fun vs H Q _=>r9 P w K vs H Q
theorem nbX (F:Fn P w K mg base "_law_number" 3 ["_law_state"] (xD P w K)):Fn P w K mg base "_law_number" 3 ["_law_state"] (mn P w K):=by
 refine Fn.weak F fun vs H Q E z=>?_;obtain⟨C,N,skv,e,⟨⟨m,k,B,si,hk,hB,sm⟩,rr,fe⟩,hN,q⟩:=z;exact⟨C.A,C.n,m,C.ns,k,B,skv,C.p,C.r,e,si,(by lia),(by lia),sm.pt,rr,fun v i H' _ _ kp s' td=>q v i H' kp ⟨⟨_,_,_,s',by lia,(by lia),sm.put (.inl rfl)⟩,rr,fe.keep si kp⟩ td⟩
def SeV (K:Fg) (H:Hp) (C:Ctx) (S:Addr) (sn:List Int):Prop:=∃ (xs:List V) (sv:List (Str×Int×Bool×Int)),H S=some (.lst xs)∧TDs K H xs (sv.map dSe)∧(sv.map fun t=>t.2.1)=sn∧S∉C.A.rs
theorem SeV.keep {H H':Hp} {C:Ctx} {N:Nat} {skv:NKV} {S:Addr} {sn:List Int} (h:SeV K H C S sn) (x:SX P w K H C N skv) (kp:ae C.A H H'):SeV K H' C S sn:=by
 obtain⟨xs,sv,h1,h2,h3,h4⟩:=h;exact⟨xs,sv,x.kL kp h1 h4,h2.tk (x.tk kp),h3,h4⟩
inductive qX (P:Program) (w:World) (K:Fg) (vs:List V) (H:Hp) (Q:VK):Prop
  | mk (C:Ctx) (N:Nat) (skv:NKV) (S:Addr) (sn:List Int) (b:Bool) (g0_:vs=[.ref C.A.s,.ref S,.bl b]) (g1_:SX P w K H C N skv) (g2_:SeV K H C S sn) (g3_:sn.length≤100) (g4_:∀ (W:Addr) (zs:List V) (ts:List (Str×Int×Bool×Int)) (H':Hp),aj H H'→H W=none→H' W=some (.lst zs)→TDs K H' zs (ts.map dSe)→ts.length≤100→(∀ t∈ts,t.2.1∈sn)→Q (.ref W) H'):qX P w K vs H Q
def ml (P:Program) (w:World) (K:Fg):Sp:=fun vs H Q _=>qX P w K vs H Q
theorem snX (F:Fn P w K mg base "_law_seen" 1 ["_law_state","_law_seen_here","_law_is_set"] (xz K)):Fn P w K mg base "_law_seen" 1 ["_law_state","_law_seen_here","_law_is_set"] (ml P w K):=by
 refine Fn.weak F fun vs H Q E z=>?_;obtain⟨C,N,skv,S,sn,b,e,⟨⟨m,k,B,si,hk,hB,sm⟩,rr,fe⟩,⟨xs,sv,h1,h2,h3,h4⟩,hsn,q⟩:=z;obtain⟨fu,hfu⟩:=sm.fu;exact⟨C.A.s,S,C.n,m,b,fu,xs,sv,e,si.pk.st,hfu,h1,h2,by rw[← h3,lMp] at hsn;omega,fun W zs ts H' s' hW hW' ht hl hm=>q W zs ts H' s' hW hW' ht (by rw[← h3,lMp] at hsn;omega) fun t z=>by rw[← h3];exact List.mem_map.mpr ⟨t,hm t z,rfl⟩⟩
def dZ (C:Ctx) (so:Str):FL:=chs ((C.p:Nat):Int) ((C.fn:Nat):Int) C.hd so C.fl
theorem mQ {C:Ctx} {so:Str}:∀ x∈dZ C so,x∈C.fl∧x.2.sort=so:=fun x hx=>by
 obtain⟨h1,h2⟩:=List.mem_filter.mp hx;refine⟨h1,?_⟩;unfold chG at h2;simp at h2;exact h2.1
inductive rh (P:Program) (w:World) (K:Fg) (vs:List V) (H:Hp) (Q:VK):Prop
  | mk (C:Ctx) (N:Nat) (skv:NKV) (so:Str) (g0_:vs=[.ref C.A.s,.str so]) (g1_:SX P w K H C N skv) (g2_:∀ (W:Addr) (H':Hp),aj H H'→H W=none→H' W=some (.lst ((dZ C so).map fun x=>V.ref x.1))→Q (.ref W) H'):rh P w K vs H Q
def mr (P:Program) (w:World) (K:Fg):Sp:=fun vs H Q _=>rh P w K vs H Q
theorem coX (F:Fn P w K mg base "_law_choices" 2 ["_law_state","_law_sort"] (xM K)):Fn P w K mg base "_law_choices" 2 ["_law_state","_law_sort"] (mr P w K):=by
 refine Fn.weak F fun vs H Q E z=>?_;obtain⟨C,N,skv,so,e,⟨⟨m,k,B,si,hk,hB,sm⟩,rr,fe⟩,q⟩:=z;exact⟨C.A.s,C.fo,C.n,m,_,_,so,C.hd,C.fl,e,si.pk.st,sm.fo,sm.pt,sm.fn,sm.hd,fe.fv,fe.fs,fe.le,fun W H' s' hW hW'=>q W H' s' hW hW'⟩
end
end K11
namespace P10
open PySem L2
def gZ:PyData→Option PyData
  | .tuple (.str h::ps)=>dQ h ps
  | _=>none
def oo:PyData→PDs
  | .tuple (.str h::ps)=>cg h ps
  | _=>[]
def FrD:Nat→PyData→Int→Prop
  | 0,_,_=>False
  | n+1,d,i=>gZ d=some (.int i)∨∃ k x,(ai d)[k]?=some x∧FrD n x i∧(k+1=(ai d).length→PyData.int i∉oo d)
theorem mK {n m:Nat} {d:PyData} {i:Int} (wf:WFd n d) (h:FrD m d i):FrD n d i:=by
 induction n generalizing m d with
 | zero=>exact wf.elim
 | succ n ih =>
  cases m with
  | zero=>exact h.elim
  | succ m =>
   rcases h with h | ⟨k,x,h1,h2,h3⟩
   · exact .inl h
   · exact .inr ⟨k,x,h1,ih (wf.kid (mGE h1)) h2,h3⟩
theorem gY {h:Str} {ps:PDs} (e:bN h w8=false):dQ h ps=none:=by unfold dQ;rw[e];rfl
structure OkE (B:List Int) (n:Nat) (d:PyData):Prop where
  wf:WFd n d
  lay:d.canLay0=true
  dep:d.depth≤2*n
  cl:∀ i,FrD n d i→i∈B
def cst:Nat→Nat
  | 0=>10
  | n+1=>8*cst n+40
theorem dw (n:Nat):10≤cst n:=by
 induction n with
 | zero=>exact Nat.le_refl _
 | succ n ih=>show 10≤8*cst n+40;lia
def nk (fn:Nat) (p:List Nat):NK:=(.inl ((fn:Nat):Int),p.map fun n=>.inl ((n:Nat):Int))
def bm (fn:Nat) (path:List Nat) (S:List Nat→Prop) (skv skv':NKV):Prop:=∀ x∈skv',(∃ y∈skv,y.1=x.1)∨∃ q,S q∧x.1=nk fn (path++q)
def AtP (d:PyData) (q:List Nat):Prop:=(atD d q).isSome=true
def eJ (ds:PDs) (q:List Nat):Prop:=∃ i r x,q=i::r∧ds[i]?=some x∧AtP x r
theorem bm.refl (fn:Nat) (path:List Nat) (S:List Nat→Prop) (skv:NKV):bm fn path S skv skv:=fun x hx=>.inl ⟨x,hx,rfl⟩
theorem bm.trans {fn:Nat} {path:List Nat} {S:List Nat→Prop} {a b c:NKV} (x:bm fn path S a b) (y:bm fn path S b c):bm fn path S a c:=fun z hz=>by
 rcases y z hz with ⟨u,hu,e⟩ | h
 · rcases x u hu with ⟨t,ht,e'⟩ | ⟨q,hq,e'⟩
   · exact .inl ⟨t,ht,e'.trans e⟩
   · exact .inr ⟨q,hq,e.symm.trans e'⟩
 · exact .inr h
theorem bm.imp {fn:Nat} {path:List Nat} {S T:List Nat→Prop} {a b:NKV} (x:bm fn path S a b) (h:∀ q,S q→T q):bm fn path T a b:=fun z hz=>by
 rcases x z hz with h' | ⟨q,hq,e⟩
 · exact .inl h'
 · exact .inr ⟨q,h q hq,e⟩
theorem bm.kid {fn:Nat} {path:List Nat} {ds:PDs} {i:Nat} {d:PyData} {a b:NKV} (x:bm fn (path++[i]) (AtP d) a b) (h:ds[i]?=some d):bm fn path (eJ ds) a b:=fun z hz=>by
 rcases x z hz with h' | ⟨q,hq,e⟩
 · exact .inl h'
 · exact .inr ⟨i::q,⟨i,q,d,rfl,h,hq⟩,by rw[e,List.append_assoc];rfl⟩
theorem tH {d:PyData} {q:List Nat} (h:eJ (ai d) q):AtP d q:=by
 obtain⟨i,r,x,rfl,h1,h2⟩:=h;show ((ai d)[i]?.bind fun x=>atD x r).isSome=true;rw[h1];exact h2
theorem bm.up {fn:Nat} {path:List Nat} {d:PyData} {a b:NKV} (x:bm fn path (eJ (ai d)) a b):bm fn path (AtP d) a b:=x.imp fun q h=>tH h
theorem bm.put {fn:Nat} {path:List Nat} {d:PyData} {a b:NKV} (x:bm fn path (AtP d) a b) (ad:Addr) (v:V):bm fn path (AtP d) a (dF b (nk fn path) ad v):=fun z hz=>by
 unfold dF at hz;split at hz
 · obtain⟨y,hy,e⟩:=List.mem_map.mp hz;have e1:z.1=y.1:=by
    rw[← e];split <;> rfl
   rcases x y hy with ⟨u,hu,e'⟩ | ⟨q,hq,e'⟩
   · exact .inl ⟨u,hu,e'.trans e1.symm⟩
   · exact .inr ⟨q,hq,e1.trans e'⟩
 · rcases mAp.mp hz with hz | hz
   · exact x z hz
   · rw[mSg.mp hz];exact .inr ⟨[],rfl,by rw[List.append_nil]⟩
theorem sW {ds:PDs} (h:∀ x∈ds,x.canLay0=true):PyData.canLayAll0 ds=true:=by
 induction ds with
 | nil=>rfl
 | cons d r ih =>
  show (d.canLay0&&PyData.canLayAll0 r)=true;rw[h d mCS,ih fun x hx=>h x (mCM _ hx)];rfl
theorem tE {ds:PDs} {n:Nat} (h:∀ x∈ds,x.depth≤n):PyData.depthAll ds≤n:=by
 induction ds with
 | nil=>exact Nat.zero_le _
 | cons d r ih =>
  show max d.depth (PyData.depthAll r)≤n;have:=h d mCS;have:=ih fun x hx=>h x (mCM _ hx);lia
theorem ef {ds:PDs} (h:∀ x∈ds,x.canLay0=true):(PyData.tuple ds).canLay0=true:=by
 show PyData.canLayAll0 ds=true;exact sW h
theorem eh {ds:PDs} {n:Nat} (h:∀ x∈ds,x.depth≤n):(PyData.tuple ds).depth≤n+1:=by
 show PyData.depthAll ds+1≤n+1;have:=tE h;lia
theorem OkE.node {B:List Int} {n:Nat} {h:Str} {sl:List Str} {ps:PDs} (nd:Nd (.tuple (.str h::ps)) h sl ps) (hs:(PyData.str h).canLay0=true) (hl:∀ x∈ps,x.canLay0=true) (hd:∀ x∈ps,x.depth≤2*n+1) (hk:∀ x∈aE sl ps,WFd n x) (hc:∀ i,FrD (n+1) (.tuple (.str h::ps)) i→i∈B):OkE B (n+1) (.tuple (.str h::ps)):=by
 refine⟨⟨h,sl,ps,nd,hk⟩,ef fun x hx=>?_,?_,hc⟩
 · rcases List.mem_cons.mp hx with rfl | hx
   · exact hs
   · exact hl x hx
 · have:=eh (ds:=.str h::ps) (n:=2*n+1) fun x hx=>by
    rcases List.mem_cons.mp hx with rfl | hx
    · exact Nat.zero_le _
    · exact hd x hx
   lia
theorem OkE.more {B:List Int} {n m:Nat} {d:PyData} (h:OkE B n d) (hn:n≤m):OkE B m d:=by
 obtain⟨wf,lay,dep,cl⟩:=h;refine⟨?_,lay,by lia,fun i z=>cl i (mK wf z)⟩;clear lay dep cl
 induction n generalizing m d with
 | zero=>exact wf.elim
 | succ n ih =>
  cases m with
  | zero=>lia
  | succ m =>
   obtain⟨h,sl,ps,nd,hk⟩:=wf;exact⟨h,sl,ps,nd,fun x hx=>ih (by lia) (hk x hx)⟩
theorem iy {d:PyData}:Shp "one" d:=⟨fun z=>absurd z (by decide +kernel),fun z=>absurd z (by decide +kernel),fun z=>absurd z (by decide +kernel),fun z=>absurd z (by decide +kernel)⟩
theorem vj {l:PDs}:Shp "many" (.tuple l):=⟨fun _=>⟨l,rfl⟩,fun z=>absurd z (by decide +kernel),fun z=>absurd z (by decide +kernel),fun z=>absurd z (by decide +kernel)⟩
theorem ji {s:Str} {i:Int} (h:s∉(["many","op","word","bounds"]:List Str)):Shp s (.int i) :=
 ⟨fun z=>absurd (by rw[z];decide +kernel) h,fun _=>⟨i,rfl⟩,fun z=>absurd (mCM _ (List.mem_append_left (["bounds"]:List Str) z)) h,fun z=>absurd (by rw[z];decide +kernel) h⟩
theorem xP {s x:Str} (h:s∉(["many","bounds","number","meant","bound","place"]:List Str)):Shp s (.str x) :=
 ⟨fun z=>absurd (by rw[z];decide +kernel) h,fun z=>absurd (mCM _ (mCM _ z)) h,fun _=>⟨x,rfl⟩,fun z=>absurd (by rw[z];decide +kernel) h⟩
theorem xQ {ts:List (Str×Int×Bool×Int)} (h:ts.length≤3):Shp "bounds" (.tuple (ts.map fun t=>.int t.2.1)) :=
 ⟨fun z=>absurd z (by decide +kernel),fun z=>absurd z (by decide +kernel),fun z=>absurd z (by decide +kernel),fun _=>⟨ts.map (·.2.1),by rw[List.map_map];rfl,by rw[lMp];exact h⟩⟩
theorem OkE.leafM {B:List Int} {h:Str} {s:Str} {p:PyData} (hm:(h,[s])∈tbl) (h1:s≠"one") (h2:s≠"many") (hsp:Shp s p) (hs:(PyData.str h).canLay0=true) (hp:p.canLay0=true) (hd:p.depth=0) (n:Nat) (hc:∀ i,dQ h [p]=some (.int i)→i∈B):OkE B (n+1) (.tuple [.str h,p]):=by
 have kn:aE [s] [p]=[]:=by
  show b8 s p++[]=[];unfold b8;rw[if_neg h1,if_neg h2];rfl
 refine OkE.node (sl:=[s]) (ps:=[p]) ⟨rfl,hm,.cons hsp .nil,by rw[kn];exact Nat.zero_le _⟩ hs (fun x hx=>?_) (fun x hx=>?_) (fun x hx=>?_) (fun i z=>?_)
 · rw[mSg.mp hx];exact hp
 · rw[mSg.mp hx,hd];exact Nat.zero_le _
 · rw[kn] at hx;cases hx
 · rcases z with z | ⟨k,x,h1',_⟩
   · exact hc i z
   · rw[Nd.kids (sl:=[s]) (ps:=[p]) ⟨rfl,hm,.cons hsp .nil,by rw[kn];exact Nat.zero_le _⟩,kn] at h1';cases h1'
theorem OkE.leaf {B:List Int} {h:Str} {s:Str} {p:PyData} (hm:(h,[s])∈tbl) (h1:s≠"one") (h2:s≠"many") (hsp:Shp s p) (hs:(PyData.str h).canLay0=true) (hp:p.canLay0=true) (hd:p.depth=0) (n:Nat) (hm8:bN h w8=false:=by decide +kernel):OkE B (n+1) (.tuple [.str h,p]):=OkE.leafM hm h1 h2 hsp hs hp hd n fun i z=>by rw[gY hm8] at z;cases z
theorem OkE.makeG {B B':List Int} {n:Nat} {h:Str} {sl:List Str} {ps ks:PDs} (hm:(h,sl)∈tbl) (hs:(PyData.str h).canLay0=true) (shp:Paired Shp sl ps) (hk:aE sl ps=ks) (hl:∀ x∈ps,x.canLay0=true) (hd:∀ x∈ps,x.depth≤2*n+1) (kl:ks.length≤8) (ko:∀ x∈ks,OkE B' n x) (hc:∀ i,FrD (n+1) (.tuple (.str h::ps)) i→i∈B):OkE B (n+1) (.tuple (.str h::ps))∧ai (.tuple (.str h::ps))=ks:=by
 have nd:Nd (.tuple (.str h::ps)) h sl ps:=⟨rfl,hm,shp,by rw[hk];exact kl⟩;exact⟨OkE.node nd hs hl hd (fun x hx=>(ko x (by rw[← hk];exact hx)).wf) hc,by rw[nd.kids,hk]⟩
theorem jy {h:Str} {sl:List Str} {ps ks:PDs} (hm:(h,sl)∈tbl) (shp:Paired Shp sl ps) (hk:aE sl ps=ks) (kl:ks.length≤8):ai (.tuple (.str h::ps))=ks:=by
 have nd:Nd (.tuple (.str h::ps)) h sl ps:=⟨rfl,hm,shp,by rw[hk];exact kl⟩;rw[nd.kids,hk]
theorem OkE.makeM {B:List Int} {n:Nat} {h:Str} {sl:List Str} {ps ks:PDs} (hm:(h,sl)∈tbl) (hs:(PyData.str h).canLay0=true) (shp:Paired Shp sl ps) (hk:aE sl ps=ks) (hl:∀ x∈ps,x.canLay0=true) (hd:∀ x∈ps,x.depth≤2*n+1) (kl:ks.length≤8) (ko:∀ x∈ks,OkE B n x) (hc:∀ i,dQ h ps=some (.int i)→i∈B):OkE B (n+1) (.tuple (.str h::ps))∧ai (.tuple (.str h::ps))=ks :=
 OkE.makeG hm hs shp hk hl hd kl ko fun i z=>by
  rcases z with z | ⟨k,x,h1,h2,_⟩
  · exact hc i z
  · rw[jy hm shp hk kl] at h1;exact (ko x (mGE h1)).cl i h2
theorem OkE.make {B:List Int} {n:Nat} {h:Str} {sl:List Str} {ps ks:PDs} (hm:(h,sl)∈tbl) (hs:(PyData.str h).canLay0=true) (shp:Paired Shp sl ps) (hk:aE sl ps=ks) (hl:∀ x∈ps,x.canLay0=true) (hd:∀ x∈ps,x.depth≤2*n+1) (kl:ks.length≤8) (ko:∀ x∈ks,OkE B n x) (hm8:bN h w8=false:=by decide +kernel):OkE B (n+1) (.tuple (.str h::ps))∧ai (.tuple (.str h::ps))=ks :=
 OkE.makeM hm hs shp hk hl hd kl ko fun i z=>by rw[gY hm8] at z;cases z
theorem OkE.wide {B B':List Int} {n:Nat} {d:PyData} (h:OkE B n d) (hb:∀ i∈B,i∈B'):OkE B' n d:=⟨h.wf,h.lay,h.dep,fun i z=>hb i (h.cl i z)⟩
end P10
namespace L2
open PySem PySem.Spec PyProof.Rows
def Ris (xs:Array Nat):Prop:=∀ i j,i<j→j<xs.size→xs.getD i 0<xs.getD j 0
theorem qE (xs:Array Nat) (i a b:Nat) (h:i<xs.size):xs.getD i a=xs.getD i b:=by simp[Array.getD,h]
theorem qR {xs:Array Nat} {j:Nat} (R:Ris xs):∀ (f lo hi:Nat),hi-lo≤f→lo≤hi→hi≤xs.size→(∀ i,i<lo→xs.getD i 0<j)→(∀ i,hi≤i→i<xs.size→j≤xs.getD i 0) →
 (∀ i,i<SetTable.below.go xs j f lo hi→xs.getD i 0<j)∧(∀ i,SetTable.below.go xs j f lo hi≤i→i<xs.size→j≤xs.getD i 0)∧SetTable.below.go xs j f lo hi≤xs.size:=by
 intro f
 induction f with
 | zero =>
  intro lo hi h1 h2 h3 h4 h5;obtain rfl:lo=hi:=by omega
  exact⟨h4,h5,h3⟩
 | succ f ih =>
  intro lo hi h1 h2 h3 h4 h5;show (∀ i,i<(if lo<hi then _ else _)→_)∧(∀ i,(if lo<hi then _ else _)≤i→_)∧(if lo<hi then _ else _)≤_;by_cases hl:lo<hi
  · rw[if_pos hl];have hm:(lo+hi) / 2<hi:=by omega
    have hm2:lo≤(lo+hi) / 2:=by omega
    show (∀ i,i<(if xs.getD ((lo+hi) / 2) j<j then _ else _)→_)∧(∀ i,(if xs.getD ((lo+hi) / 2) j<j then _ else _)≤i→_)∧(if xs.getD ((lo+hi) / 2) j<j then _ else _)≤_;rw[qE xs _ j 0 (by omega)];by_cases hc:xs.getD ((lo+hi) / 2) 0<j
    · rw[if_pos hc];refine ih _ _ (by omega) (by omega) h3 (fun i hi'=>?_) h5;by_cases e:i=(lo+hi) / 2
      · rw[e];exact hc
      · exact Nat.lt_trans (R i ((lo+hi) / 2) (by omega) (by omega)) hc
    · rw[if_neg hc];refine ih _ _ (by omega) (by omega) (by omega) h4 fun i hi' hs=>?_;by_cases e:i=(lo+hi) / 2
      · rw[e];omega
      · have:=R ((lo+hi) / 2) i (by omega) hs;omega
  · rw[if_neg hl];obtain rfl:lo=hi:=by omega
    exact⟨h4,h5,h3⟩
theorem im {xs:Array Nat} (R:Ris xs) (j:Nat):(∀ i,i<SetTable.below xs j→xs.getD i 0<j)∧(∀ i,SetTable.below xs j≤i→i<xs.size→j≤xs.getD i 0)∧SetTable.below xs j≤xs.size :=
 qR R xs.size 0 xs.size (by omega) (Nat.zero_le _) (Nat.le_refl _) (fun i h=>absurd h (Nat.not_lt_zero _)) fun i h1 h2=>absurd h2 (by omega)
theorem il {xs:Array Nat} (R:Ris xs):SetTable.below xs 0=0:=by
 obtain⟨h1,_,h3⟩:=im R 0;cases e:SetTable.below xs 0 with
 | zero=>rfl
 | succ k=>exact absurd (h1 k (by omega)) (Nat.not_lt_zero _)
theorem io {xs:Array Nat} (R:Ris xs) {i:Nat} (hi:i<xs.size):SetTable.below xs (xs.getD i 0+1)=i+1:=by
 obtain⟨h1,h2,h3⟩:=im R (xs.getD i 0+1);by_cases a:SetTable.below xs (xs.getD i 0+1)≤i
 · have:=h2 i a hi;omega
 · by_cases b:i+1<SetTable.below xs (xs.getD i 0+1)
   · have:=h1 (i+1) b;have:=R i (i+1) (Nat.lt_succ_self _) (by omega);omega
   · omega
theorem kj {xs:Array Nat}:Ris xs↔xs.toList.Pairwise (·<·):=by
 rw[List.pairwise_iff_getElem];constructor
 · intro h i j hi hj hij;have:=h i j hij (by simpa using hj)
   simpa [Array.getD,show i<xs.size by simpa using hi,show j<xs.size by simpa using hj] using this
 · intro h i j hij hj;have:=h i j (by rw[Array.length_toList];omega) (by rw[Array.length_toList];exact hj) hij
   simpa [Array.getD,show i<xs.size by omega,hj] using this
theorem sw {xs:Array Nat} (R:Ris xs) {j:Nat} (hj:xs[SetTable.below xs j]?≠some j):Ris (SetTable.insertAt xs (SetTable.below xs j) j):=by
 obtain⟨h1,h2,h3⟩:=im R j;generalize SetTable.below xs j=p at hj h1 h2 h3;rw[kj] at R ⊢;have e:(SetTable.insertAt xs p j).toList=xs.toList.take p++j::xs.toList.drop p:=by
  unfold SetTable.insertAt;simp[Array.toList_extract];rw[List.take_of_length_le (by simp)]
 rw[e,List.pairwise_append];have gt:∀ y∈xs.toList.drop p,j<y:=fun y hy=>by
  obtain⟨k,hk,rfl⟩:=List.getElem_of_mem hy;rw[List.getElem_drop];rw[List.length_drop,Array.length_toList] at hk;have hb:p+k<xs.size:=by omega
  have g:=h2 (p+k) (by omega) hb;have e1:xs.getD (p+k) 0=xs.toList[p+k]'(by rw[Array.length_toList];exact hb):=by simp[Array.getD,hb]
  rw[e1] at g;cases k with
  | succ k =>
   have:=List.pairwise_iff_getElem.mp R p (p+(k+1)) (by rw[Array.length_toList];omega) (by rw[Array.length_toList];exact hb) (by omega);have g0:=h2 p (Nat.le_refl _) (by omega);have e0:xs.getD p 0=xs.toList[p]'(by rw[Array.length_toList];omega):=by simp[Array.getD,show p<xs.size by omega]
   rw[e0] at g0;omega
  | zero =>
   refine Nat.lt_of_le_of_ne g fun c=>hj ?_;rw[Array.getElem?_eq_getElem (by simpa using hb)];have c':j=xs.toList[p]'(by rw[Array.length_toList];simpa using hb):=c;rw[Array.getElem_toList] at c';rw[c']
 refine⟨R.take,List.pairwise_cons.mpr ⟨gt,R.drop⟩,fun x hx y hy=>?_⟩;have lx:x<j:=by
  obtain⟨k,hk,rfl⟩:=List.getElem_of_mem hx;rw[List.getElem_take];rw[lTk,Array.length_toList] at hk;have hb:k<xs.size:=by omega
  have g:=h1 k (by omega);have e1:xs.getD k 0=xs.toList[k]'(by rw[Array.length_toList];exact hb):=by simp[Array.getD,hb]
  rw[e1] at g;exact g
 rcases List.mem_cons.mp hy with rfl | hy
 · exact lx
 · exact Nat.lt_trans lx (gt y hy)
def RI (t:SetTable):Prop:=Ris t.place∧t.dummies=#[]
theorem iV (j:Nat):SetTable.has #[] j=false:=rfl
theorem ky {t:SetTable} (h:t.dummies=#[]) {f:Nat→Int} {k:Int}:∀ (n:Nat) (p:SetTable.Probe) (j:Nat) (d:Option Nat),SetTable.probe.go t f k n p=some (.empty j d)→t.place[SetTable.below t.place j]?≠some j∧d=p.dummy∨(∃ i nx,SetTable.probe.go t f k n p=some (.candidate j i nx)):=by
 intro n
 induction n with
 | zero=>intro p j d z;cases z
 | succ n ih =>
  intro p j d z;unfold SetTable.probe.go at z;have ns:∀ q,t.slot q≠.dummy:=fun q=>by
   unfold SetTable.slot;dsimp only;split
   · intro c;cases c
   · rw[h,iV,if_neg Bool.false_ne_true];intro c;cases c
  split at z
  · rename_i hs
    cases z;refine .inl ⟨fun c=>?_,rfl⟩;unfold SetTable.slot at hs;dsimp only at hs;rw[if_pos (by rw[c];exact beq_self_eq_true _)] at hs;cases hs
  · rename_i hs;exact absurd hs (ns _)
  · split at z
    · cases z
    · have r:=ih _ j d z
      rcases r with r | ⟨i,nx,r⟩
      · refine .inl ⟨r.1,r.2.trans ?_⟩;unfold SetTable.advance;split <;> rfl
      · rw[r] at z;cases z
theorem vx {t:SetTable} (R:RI t) (es:Array (Int×Value)) (k:Int) (x:Value):RI (layNew t es k x).2.1:=by
 have stand:∀ (t:SetTable) n,RI (t.standIn n):=fun t n=>⟨fun i j hij hj=>by
   have hj':j<n:=by simpa [SetTable.standIn] using hj
   simp[SetTable.standIn,Array.getD,show i<n by omega,hj',hij],rfl⟩
 unfold layNew;split
 · rename_i slot dm e
   have hs:t.place[SetTable.below t.place slot]?≠some slot:=by
    unfold SetTable.freeSlot at e;split at e
    · rename_i j d hp
      unfold SetTable.probe at hp
      rcases ky R.2 _ _ _ _ hp with ⟨h1,h2⟩ | ⟨i,nx,h3⟩
      · rw[h2] at e;have e':=Option.some.inj e;have e1:(none:Option Nat).getD j=slot:=congrArg Prod.fst e';rw[← e1];exact h1
      · rw[h3] at hp;cases hp
    · cases e
   have ri1:RI (t.put slot).1:=⟨sw R.1 hs,by
     show (if SetTable.has t.dummies slot=true then _ else _)=#[];rw[R.2,iV,if_neg Bool.false_ne_true]⟩
   show RI ((t.put slot).1.orStandIn _);unfold SetTable.orStandIn;split
   · exact ri1
   · exact stand _ _
 · exact stand _ _
theorem pw {t:SetTable} (R:RI t) (es:Array (Int×Value)) (k:Nat):RI (relayAll t es k).2.1:=by
 have stand:∀ (t:SetTable) n,RI (t.standIn n):=fun t n=>⟨fun i j hij hj=>by
   have hj':j<n:=by simpa [SetTable.standIn] using hj
   simp[SetTable.standIn,Array.getD,show i<n by omega,hj',hij],rfl⟩
 unfold relayAll;cases e:t.relaid (es.map (·.1)) k with
 | none=>exact stand _ _
 | some y =>
  obtain⟨t',od⟩:=y;dsimp only;split
  · unfold SetTable.relaid SetTable.laid at e;cases e2:SetTable.layClean (SetTable.sizeAbove k-1) (es.map (·.1)) with
    | none=>rw[e2] at e;cases e
    | some ow =>
     rw[e2] at e;cases e;refine⟨?_,rfl⟩;rw[kj];show ((List.filterMap _ _).map _).Pairwise (·<·);rw[List.map_filterMap,List.pairwise_filterMap];refine List.Pairwise.imp_of_mem (fun {a b} _ _ hab=>?_) List.pairwise_lt_range;intro u hu v hv;simp only[oMS] at hu hv;obtain⟨_,⟨_,_,rfl⟩,rfl⟩:=hu;obtain⟨_,⟨_,_,rfl⟩,rfl⟩:=hv;exact hab
  · exact stand _ _
theorem lu:∀ {l B:List Int},l.Nodup→(∀ x∈l,x∈B)→l.length≤B.length:=by
 intro l
 induction l with
 | nil=>intro B _ _;exact Nat.zero_le _
 | cons x r ih =>
  intro B nd h;have hx:=h x mCS;obtain⟨n1,n2⟩:=List.nodup_cons.mp nd;have:=ih (B:=B.erase x) n2 fun y hy=>(List.mem_erase_of_ne fun e=>n1 (by rw[← e];exact hy)).mpr (h y (mCM _ hy));rw[List.length_erase_of_mem hx] at this;have:0<B.length:=List.length_pos_of_mem hx;rw[List.length_cons];omega
def fZ:Value→Int
  | .int x _=>x
  | _=>0
theorem jY (t:SetTable) (n:Nat):(t.orStandIn n).led=t.led∧(t.plain=false→(t.orStandIn n).plain=false):=by
 unfold SetTable.orStandIn;split
 · exact⟨rfl,id⟩
 · exact⟨rfl,fun _=>rfl⟩
theorem nU (t:SetTable) (es:Array (Int×Value)) (k:Int) (x:Value):(layNew t es k x).2.1.led=t.led∧(t.plain=false→(layNew t es k x).2.1.plain=false):=by
 unfold layNew;split
 · rename_i slot dm _
   exact jY (t.put slot).1 _
 · exact⟨rfl,fun _=>rfl⟩
theorem lC {m f v:Nat} {l p:Bool} {hs:Array Int} {t:SetTable} {od:Array Nat} (h:SetTable.laid m f v l p hs=some (t,od)):t.led=l∧t.plain=p:=by
 unfold SetTable.laid at h;cases e:SetTable.layClean m hs with
 | none=>rw[e] at h;cases h
 | some ow=>rw[e] at h;cases h;exact⟨rfl,rfl⟩
theorem km (t:SetTable) (es:Array (Int×Value)) (k:Nat):(relayAll t es k).2.1.led=t.led∧(t.plain=false→(relayAll t es k).2.1.plain=false):=by
 unfold relayAll;cases e:t.relaid (es.map (·.1)) k with
 | none=>exact⟨rfl,fun _=>rfl⟩
 | some y =>
  obtain⟨t',od⟩:=y;obtain⟨a,b⟩:=lC (show SetTable.laid _ _ _ _ _ _=some (t',od) from e);dsimp only;split
  · exact⟨a,fun z=>b.trans z⟩
  · exact⟨rfl,fun _=>rfl⟩
structure dB (prog:Program) (w:World) (h:Heap) (a:Addr) (ss:List Int) (n:Nat) (o:Obj) (es:Array (Int×Value)) (ep:Nat) (t:SetTable):Prop where
  at_:h.get? a=some o
  ex:o.ExactSet
  dt:o.data=.set es ep t
  el:ElemsOf (aw prog w) es.toList
  sz:es.size<64
  ft:t.fits es.size=true
  ld:t.led=!(w.params.followText "set-order")
  pl:RI t
  st:∀ e∈es.toList,∃ x u,e.2=.int x u∧x∈ss
  nd:(es.toList.map fun e=>fZ e.2).Nodup
  al:∀ x∈ss.take n,∃ e∈es.toList,fZ e.2=x
section
variable {prog:Program} {w:World} {A:Around} {E:VSP} {s:Shared} {a:Addr} {ss B:List Int} {n:Nat} {o:Obj} {es:Array (Int×Value)} {ep:Nat} {t:SetTable}
theorem dB.of_same {h h':Heap} (S:dB prog w h a ss n o es ep t) (e:h'.get? a=some o):dB prog w h' a ss n o es ep t:=⟨e,S.ex,S.dt,S.el,S.sz,S.ft,S.ld,S.pl,S.st,S.nd,S.al⟩
theorem isK (x:Int) (u:Tok):(aw prog w).is (.inl x) (.int x u)=true:=by
 show (x==x)=true;simp
theorem dB.store {es':Array (Int×Value)} {t':SetTable} {m:Nat} {h:Heap} (S:dB prog w h a ss n o es ep t) (el:ElemsOf (aw prog w) es'.toList) (sz:es'.size<64) (ft:t'.fits es'.size=true) (ld:t'.led=t.led) (pl:RI t')
 (st:∀ e∈es'.toList,∃ x u,e.2=.int x u∧x∈ss) (nd:(es'.toList.map fun e=>fZ e.2).Nodup) (al:∀ x∈ss.take m,∃ e∈es'.toList,fZ e.2=x) :
 dB prog w (h.update a (Obj.putSet es' t')) a ss m {o with data:=.set es' (ep+1) t'} es' (ep+1) t':=by
 have hg:=Heap.get?_update_self (Obj.putSet es' t') S.at_ (by rw[putSet_of es' t' S.dt];rfl);rw[putSet_of es' t' S.dt] at hg;exact⟨hg,S.ex,rfl,el,sz,ft,ld.trans S.ld,pl,st,nd,al⟩
theorem dB.add {x:Int} {u:Tok} {Q:Bool→Shared→Prop} (S:dB prog w s.heap a ss n o es ep t) (hx':ss[n]?=some x) (hB:∀ x∈ss,x∈B) (hB6:B.length<64)
 (h:∀ (b:Bool) h' o' es' ep' t',Heap.SameBut a s.heap h'→dB prog w h' a ss (n+1) o' es' ep' t'→Q b {s with heap:=h'}) :
 wpAny (model prog w) A (setAddHashed a (.int x u) ((aw prog w).hash (.inl x))) Q E s:=by
 have hlt:es.size<scanBound:=Nat.lt_trans S.sz (by decide);have hx:=mGE hx';have htk:∀ y∈ss.take (n+1),y∈ss.take n∨y=x:=fun y hy=>by rw[tAO,hx'] at hy;rcases mAp.mp hy with z | z;exact .inl z;exact .inr (mSg.mp z)
 have hgw:∀ (b:Bool) {s1:Shared} {Q':Unit→Shared→Prop},Q' () s1→wpAny (model prog w) A (match b with | true=>rule "set.scan.the-table-gave-way" | false=>pure ()) Q' E s1 :=
  fun b s1 Q' z=>by cases b <;> first | exact wP z | exact wpAny_rule z
 unfold setAddHashed setAddHashedIn;refine wpAny_holding (wB (wpAny_setState_of S.at_ S.dt S.ft ?_));dsimp only;rw[byScan_of (knd:=aw prog w) (x:=.int x u) rfl hlt S.el];simp only[↓reduceIte];unfold setAddByScan;refine wB (wB (wpAny_rule (wB (wpAny_setScan_of (knd:=aw prog w) (k:=.inl x) (isK x u) S.at_ S.dt S.ft S.el ?_))));cases hr:List.findIdx? (fun e=>(aw prog w).is (.inl x) e.2) es.toList with
 | some j =>
  dsimp only;refine wP (wP ?_);obtain⟨hj1,hj2,_⟩:=List.findIdx?_eq_some_iff_getElem.mp hr;refine h false s.heap o es ep t (Heap.SameBut.refl a s.heap) ⟨S.at_,S.ex,S.dt,S.el,S.sz,S.ft,S.ld,S.pl,S.st,S.nd,fun y hy=>?_⟩
  rcases htk y hy with z | rfl
  · exact S.al y z
  · have hm:=List.getElem_mem hj1;obtain⟨y',v,ev,_⟩:=S.st _ hm;refine⟨_,hm,?_⟩;rw[ev] at hj2 ⊢;have q:(y'==y)=true:=hj2;exact eq_of_beq q
 | none =>
  dsimp only;have hnot:=List.findIdx?_eq_none_iff.mp hr;have pm:=layNew_perm t es ((aw prog w).hash (.inl x)) (.int x u);have ft1:=layNew_fits t es ((aw prog w).hash (.inl x)) (.int x u);have fl1:=(nU t es ((aw prog w).hash (.inl x)) (.int x u)).1;have fl2:=vx S.pl es ((aw prog w).hash (.inl x)) (.int x u);generalize layNew t es ((aw prog w).hash (.inl x)) (.int x u)=L at pm ft1 fl1 fl2 ⊢;obtain⟨es1,t1,dm,gv⟩:=L;dsimp only at pm ft1 fl1 fl2 ⊢;rw[Array.toList_push] at pm;have el1:ElemsOf (aw prog w) es1.toList:=(S.el.push (isK x u) rfl).perm pm;have st1:∀ e∈es1.toList,∃ y v,e.2=.int y v∧y∈ss:=fun e he=>by
   rcases mAp.mp (pm.mem_iff.mp he) with he | he
   · exact S.st e he
   · rw[mSg.mp he];exact⟨x,u,rfl,hx⟩
  have nd1:(es1.toList.map fun e=>fZ e.2).Nodup:=by
   rw[(pm.map fun e=>fZ e.2).nodup_iff,List.map_append,List.nodup_append];refine⟨S.nd,by simp,fun y hy z hz=>?_⟩;obtain⟨e,he,rfl⟩:=List.mem_map.mp hy;rw[List.mem_map] at hz;obtain⟨e2,he2,rfl⟩:=hz;rw[mSg.mp he2];intro q;obtain⟨y,v,ev,_⟩:=S.st e he;have hb:=hnot e he;rw[ev] at hb q;have q':y=x:=q;rw[q',isK x v] at hb;cases hb
  have al1:∀ y∈ss.take (n+1),∃ e∈es1.toList,fZ e.2=y:=fun y hy=>by
   rcases htk y hy with z | rfl
   · obtain⟨e,he,q⟩:=S.al y z;exact⟨e,pm.mem_iff.mpr (List.mem_append_left _ he),q⟩
   · exact⟨_,pm.mem_iff.mpr (List.mem_append_right _ (mSg.mpr rfl)),rfl⟩
  have z1:es1.size<64:=by
   have:=lu nd1 fun y hy=>by
    obtain⟨e,he,rfl⟩:=List.mem_map.mp hy;obtain⟨y,v,ev,hy'⟩:=st1 e he;rw[ev];exact hB y hy'
   rw[lMp,Array.length_toList] at this;omega
  have hl1:es1.size<scanBound:=Nat.lt_trans z1 (by decide);have fin:∀ (t2:SetTable) {Q2:Option Bool→Shared→Prop},t2.fits es1.size=true→t2.led=t.led→RI t2→(∀ h' o' es' ep' t',Heap.SameBut a s.heap h'→dB prog w h' a ss (n+1) o' es' ep' t'→Q2 (some true) {s with heap:=h'}) →
   wpAny (model prog w) A (do
     storeSet a es1 t2
     if (!dm&&t2.tooFull)=true then do
       (match (relayAll t2 es1 (SetTable.grown es1.size)).2.2 with | true=>rule "set.scan.the-table-gave-way" | false=>pure ())
       storeSet a (relayAll t2 es1 (SetTable.grown es1.size)).1 (relayAll t2 es1 (SetTable.grown es1.size)).2.1
       pure (some true)
     else pure (some true)) Q2 E s:=by
   intro t2 Q2 f2 l2 p2 k2;have S1:=S.store el1 z1 f2 l2 p2 st1 nd1 al1;refine wB (wpAny_storeSet_of S.at_ S.dt ?_ (fits_of_scanBound hl1));split
   · have pm2:=relayAll_perm t2 es1 (SetTable.grown es1.size);have ft2:=relayAll_fits t2 es1 (SetTable.grown es1.size);have g1:=(km t2 es1 (SetTable.grown es1.size)).1;have g2:=pw p2 es1 (SetTable.grown es1.size);generalize relayAll t2 es1 (SetTable.grown es1.size)=R at pm2 ft2 g1 g2 ⊢;obtain⟨es2,t3,gv2⟩:=R;dsimp only at pm2 ft2 g1 g2 ⊢;have z2:es2.size<64:=by rw[← Array.length_toList,pm2.length_eq,Array.length_toList];exact z1
     refine wB (hgw _ (wB (wpAny_storeSet_of S1.at_ rfl (wP ?_) (fits_of_scanBound (Nat.lt_trans z2 (by decide))))));exact k2 _ _ _ _ _ ((Heap.SameBut.update s.heap a _).trans (Heap.SameBut.update _ a _)) (S1.store (el1.perm pm2) z2 ft2 g1 g2 (fun e he=>st1 e (pm2.mem_iff.mp he)) ((pm2.map fun e=>fZ e.2).nodup_iff.mpr nd1) fun y hy=>by obtain⟨e,he,q⟩:=al1 y hy;exact⟨e,pm2.mem_iff.mpr he,q⟩)
   · exact wP (k2 _ _ _ _ _ (Heap.SameBut.update s.heap a _) S1)
  refine wB (hgw _ ?_);by_cases hp:t1.plain=true
  · rw[if_pos hp,hashByValue_scannable 8 (show (Value.int x u).scannable=true from rfl)];refine wB (wP ?_);exact fin t1 ft1 fl1 fl2 fun h' o' es' ep' t' sb S'=>wP (h true h' o' es' ep' t' sb S')
  · rw[if_neg hp];refine wB (wP ?_);exact fin t1 ft1 fl1 fl2 fun h' o' es' ep' t' sb S'=>wP (h true h' o' es' ep' t' sb S')
end
section
variable {prog:Program} {w:World} {A:Around} {R:Result→Shared→Prop} {I:Addr} {fp wr:List Addr} {G:Array GenState→Array GenState→Prop} {n:Nat} {P:Nat→Value→Prop} {St:Nat→Shared→Prop} {ss B:List Int}
theorem oX (W:WalksS prog w A.in1 I fp wr G n P St) (S:Addr) (hSf:S∉fp) (hv:∀ i v,P i v→∃ x u,v=Value.int x u∧ss[i]?=some x) (hB:∀ x∈ss,x∈B) (hB6:B.length<64) :
 ∀ (k i:Nat) (s:Shared) (o:Obj) (es:Array (Int×Value)) (ep:Nat) (t:SetTable),n-i=k→i≤n→St i s→dB prog w s.heap S ss i o es ep t →
  (∀ s' o' es' ep' t',Moved (S::wr) G s s'→dB prog w s'.heap S ss n o' es' ep' t'→R (.ok (.ret .none)) s') →
  codeAny (model prog w) A (.builtin "set.update.loop" ⟨[.ref S,.ref I],[]⟩) R s:=by
 have nw:S∉wr:=fun z=>hSf (W.sub _ z);have sub:∀ b∈wr,b∈S::wr:=fun b z=>mCM _ z;intro k
 induction k with
 | zero =>
  intro i s o es ep t hk hi st SS hR;obtain rfl:i=n:=by omega
  refine codeAny_builtin PyProof.Rows.F.entry_set_update_loop (by rw[Around.under_plainId PyProof.Rows.F.plain_set_update_loop _];show wpAny _ A.in1 (pyNext (.ref I)>>=_) _ _ s;refine wB (W.done s _ _ st fun s' hm=>?_);show wpAny _ A.in1 (ret Value.none) _ _ s';exact wP (hR s' _ _ _ _ (hm.mono sub) (SS.of_same (hm.heap S _ nw SS.at_))))
 | succ k ih =>
  intro i s o es ep t hk hi st SS hR;have lt:i<n:=by omega
  refine codeAny_builtin PyProof.Rows.F.entry_set_update_loop ?_;rw[Around.under_plainId PyProof.Rows.F.plain_set_update_loop _];show wpAny _ A.in1 (pyNext (.ref I)>>=_) _ _ s;refine wB (W.item i s _ _ lt st fun v s1 pv st1 hm=>?_);obtain⟨x,u,rfl,hx⟩:=hv i v pv;have S1:=SS.of_same (hm.heap S _ nw SS.at_);show wpAny _ A.in1 (holding [Value.int x u] (setAdd S (.int x u))>>=_) _ _ s1;refine wB (wpAny_holding (by
    unfold setAdd;refine wpAny_holding (wB ((aw prog w).pyHash (k:=.inl x) (isK x u) ?_));refine dB.add (s:={s1 with toks:=s1.toks+1}) S1 hx hB hB6 fun b h' o' es' ep' t' sb S2=>?_;refine wP ⟨plainId_quiet PyProof.Rows.F.plain_set_update_loop _,ih (i+1) _ o' es' ep' t' (by omega) lt (W.frame _ s1 _ _ st1 (Nat.le_succ _) fun c hc q e=>?_) S2 fun s3 o3 es3 ep3 t3 hm3 S3=>?_⟩
    · rw[sb.2 c fun z=>hSf (by rw[← z];exact hc)];exact e
    · refine hR s3 o3 es3 ep3 t3 (Moved.trans W.gtrans ((hm.mono sub).then_heap (Nat.le_succ _) fun c q hc e=>?_) hm3) S3;rw[sb.2 c fun z=>hc (by rw[z];exact mCS)];exact e))
end
section
variable {prog:Program} {w:World} {A:Around} {E:VSP} {s:Shared}
abbrev gp (w:World):Obj:={cls:=.type "set",dict:=none,data:=.set #[] 0 (.fresh 0 0 (!(w.params.followText "set-order")))}
theorem sr (a:Value) {Q:VSP} (h:Q (.ref s.heap.objs.size) {s with heap:=s.heap.push (gp w)}) :
 codeAny (model prog w) A (.call (.builtin "set.__new__") ⟨[.type "set",a],[]⟩) (wants Q E) s:=by
 refine codeAny_of_tree (by
   show wpAny _ A.in1 (do checkBuiltinCall "set.__new__" ⟨[.type "set",a],[]⟩;again (.builtin "set.__new__" ⟨[.type "set",a],[]⟩)) _ _ s;refine wB (wpAny_of_eq (PySem.F.newCall_set_1 a) (wP ⟨plainId_quiet PySem.F.plain_set_new _,codeAny_builtin PySem.F.entry_set_new ?_⟩));rw[Around.under_plainId PySem.F.plain_set_new _];unfold Builtin.«set.__new__» Builtin.Frozenset.newClass;have hsub:=sub_set_self;obtain⟨hp,g,d,tk,os⟩:=s;dsimp only
   wp_walk
   refine wpAny_askSetting (wP ?_);dsimp only;simp only[newObj];exact wB (wpAny_alloc (wP (wP h))))
end
section
variable {prog:Program} {w:World} {A:Around} {E:VSP} {s:Shared}
theorem oY {l:Addr} {its:Array Value} {ss B:List Int} {Q:VSP} (hh:A.handled=none) (hl:s.heap.IsList l its) (hv:∀ (i:Nat) (v:Value),its[i]?=some v→∃ x u,v=Value.int x u∧ss[i]?=some x) (hB:∀ x∈ss,x∈B) (hB6:B.length<64)
 (h:∀ h' tk o es ep t,dB prog w h' s.heap.objs.size ss its.size o es ep t→(∀ b q,s.heap.get? b=some q→h'.get? b=some q)→Q (.ref s.heap.objs.size) {s with heap:=h',toks:=tk}) :
 wpAny (model prog w) A (call (.type "set") [.ref l]) Q E s:=by
 obtain⟨c,tl,hmro⟩:=PySem.F.called_set.mro;have hmade:=PySem.F.called_set.made;have hsub:=PySem.F.called_set.sub;refine wpAny_call (codeAny_of_tree (by
   show wpAny _ _ (callAny (.type "set") _) _ _ _;refine wP ⟨Code.quiet_builtin _ (by decide +kernel),codeAny_builtin PySem.F.entry_type_call ?_⟩;rw[Around.under_plain (weight_type_call_type "set" [.ref l] []) rfl];have h1:=PySem.F.called_set.notType;have h2:=PySem.F.called_set.canCreate;have hct:=PySem.F.typeCall_set_1 (.ref l)
   repeat (any_goals (first | assumption | wp_step))
   refine codeAny_mono (sr (.ref l) (E:=E) (Q:=fun obj s1=>obj=.ref s.heap.objs.size∧s1={s with heap:=s.heap.push (gp w)}) ⟨rfl,rfl⟩) fun r s1 hr=>?_;cases r with
   | error e=>exact hr
   | ok fl =>
     cases fl with
     | ret obj =>
       obtain⟨rfl,rfl⟩:=hr;have hS:(s.heap.push (gp w)).get? s.heap.objs.size=some (gp w):=Heap.get?_push_size _ rfl;have hT:Shared.TypeIs {s with heap:=s.heap.push (gp w)} (.ref s.heap.objs.size) "set":=⟨_,hS,rfl⟩;have hli:=PySem.F.called_set.init.lookup;have hbi:=PySem.F.called_set.init.bind (.ref s.heap.objs.size)
       repeat (any_goals (first | assumption | wp_step))
       refine codeAny_mono (codeAny_call_builtin (R:=wants (fun r s2=>r=.none∧∃ h' tk o es ep t,s2={s with heap:=h',toks:=tk}∧dB prog w h' s.heap.objs.size ss its.size o es ep t∧∀ b q,s.heap.get? b=some q→h'.get? b=some q) E) PySem.F.called_set.init.plain PySem.F.entry_set_init (check_set_init_1 hT ?_)) fun r2 s2 hr2=>?_
       · obtain⟨ol,hol,hcl,nl,hdl⟩:=hl;obtain⟨ocls,odict,odata,oslots⟩:=ol;dsimp only at hcl hdl;subst hcl hdl;have hol1:(s.heap.push (gp w)).get? l=some {cls:=.type "list",dict:=odict,data:=.seq its nl,slots:=oslots}:=hpS _ hol;have hsls:=PySem.F.sub_list_set;have hslf:=PySem.F.sub_list_frozenset;have hne:(Value.type "list"==Value.type "dict")=false:=by decide
         have hl1:(s.heap.push (gp w)).IsList l its:=⟨_,hol1,rfl,nl,rfl⟩;unfold Builtin.«set.__init__» noKeywords Builtin.Frozenset.updateFrom;generalize hPI:pyIter=PI
         wp_walk
         subst hPI;refine wpAny_pyIter_list hl1 (wB (wpAny_runValue ?_));have lS:l<s.heap.objs.size:=Heap.lt_size hol;have hh3:A.in1.in1.in1.handled=none:=by simp[hh]
         have nI:l≠(s.heap.push (gp w)).objs.size:=by rw[Heap.size_push];exact Nat.ne_of_lt (Nat.lt_succ_of_lt lS)
         have nS:s.heap.objs.size∉[(s.heap.push (gp w)).objs.size,l]:=by
           rw[Heap.size_push];intro z;simp only[List.mem_cons,nMN,or_false] at z
           rcases z with z | z
           · exact Nat.ne_of_lt (Nat.lt_succ_self _) z
           · exact Nat.ne_of_gt lS z
         have hget:((s.heap.push (gp w)).push {cls:=.type "list_iterator",data:=.fields #[.ref l,.int 0 0]}).get? s.heap.objs.size=some (gp w):=hpS _ hS;refine oX ((Walks.list hh3 _ l nI its).toS) s.heap.objs.size nS hv hB hB6 (its.size-0) 0 _ (gp w) #[] 0 _ (by omega) (Nat.zero_le _) ⟨⟨_,Heap.get?_push_size _ rfl,rfl,rfl⟩,hl1.push _⟩
           ⟨hget,⟨rfl,rfl,rfl⟩,rfl,fun e he=>by simp at he,by show 0<64;decide,rfl,rfl,⟨fun i j _ z=>absurd z (Nat.not_lt_zero _),rfl⟩,fun e he=>by simp at he,by simp,fun x hx=>by simp at hx⟩ fun s3 o es ep t hm S3=>?_
         obtain⟨h3,g3,d3,tk3,os3⟩:=s3;obtain rfl:g3=s.gens:=hm.gens;obtain rfl:d3=s.drawn:=hm.drawn;obtain rfl:os3=s.os:=hm.os;show wpAny _ _ _ _ _ _;refine wP (by
           show wpAny _ _ (ret Value.none) _ _ _;refine wP ⟨rfl,h3,tk3,o,es,ep,t,rfl,S3,fun b q e=>?_⟩;have lb:=Heap.lt_size e;refine hm.heap b q (fun z=>?_) (hpS _ (hpS _ e));rw[Heap.size_push] at z;simp only[List.mem_cons,nMN,or_false] at z
           rcases z with z | z
           · exact Nat.ne_of_lt lb z
           · exact Nat.ne_of_lt (Nat.lt_succ_of_lt lb) z)
       · cases r2 with
         | error e=>exact hr2
         | ok fl2 =>
           cases fl2 with
           | ret r =>
             obtain⟨rfl,h',tk,o,es,ep,t,rfl,S',k'⟩:=hr2
             repeat (any_goals (first | assumption | wp_step))
             exact h _ _ _ _ _ _ S' k'
           | next=>cases hr2
           | brk=>cases hr2
           | cont=>cases hr2
     | next=>cases hr
     | brk=>cases hr
     | cont=>cases hr))
end
theorem aX:Slot "set_iterator" "__next__" "set_iterator.__next__":=Slot.of (owner:="set_iterator") (n:="__next__") (by rw[typeLookup_type,builtinLookup_eq_fast];kernel_rfl) (by decide +kernel) (by decide +kernel) (by decide +kernel) (by first | exact .inl (by decide +kernel) | exact .inr (by decide +kernel)) (by rw[isSubtype_type];kernel_rfl)
theorem fq:Slot "set_iterator" "__iter__" "set_iterator.__iter__":=Slot.of (owner:="set_iterator") (n:="__iter__") (by rw[typeLookup_type,builtinLookup_eq_fast];kernel_rfl) (by decide +kernel) (by decide +kernel) (by decide +kernel) (by first | exact .inl (by decide +kernel) | exact .inr (by decide +kernel)) (by rw[isSubtype_type];kernel_rfl)
theorem cz:entryFor table "set_iterator.__next__"=some Builtin.«set_iterator.__next__»:=entryFor_of_fast (by kernel_rfl)
theorem iB:entryFor table "set_iterator.__iter__"=some Builtin.«dict_keyiterator.__iter__»:=entryFor_alias (id':="dict_keyiterator.__iter__") (by kernel_rfl) rfl (by decide +kernel) (by kernel_rfl)
theorem cP (a:Value):argsOk "set_iterator.__next__" ⟨[a],[]⟩:=by unfold argsOk;kernel_rfl
theorem jM (a:Value):argsOk "set_iterator.__iter__" ⟨[a],[]⟩:=by unfold argsOk;kernel_rfl
theorem eI:entryFor table "set.__iter__"=some Builtin.«frozenset.__iter__»:=entryFor_alias (id':="frozenset.__iter__") (by kernel_rfl) rfl (by decide +kernel) (by kernel_rfl)
theorem jC {α:Type}:∀ (l:List α) (i:Nat) (h:i<l.length),(l[i]::l.eraseIdx i).Perm l
 | [],i,h=>by cases h
 | x::r,0,_=>List.Perm.refl _
 | x::r,i+1,h=>by
  rw[List.eraseIdx_cons_succ,List.getElem_cons_succ];exact (List.Perm.swap _ _ _).trans (List.Perm.cons _ (jC r i (Nat.lt_of_succ_lt_succ h)))
theorem mB {α:Type} (nx:Nat→Nat):∀ (f k:Nat) (l:List α) (o:Array α),f=l.length→(pickOrder.go nx f k l o).toList.Perm (o.toList++l)
 | 0,k,l,o,h=>by
  cases List.eq_nil_of_length_eq_zero h.symm;rw[pickOrder.go,List.append_nil]
 | f+1,k,l,o,h=>by
  have hp:0<l.length:=by omega
  have hi:nx k % l.length<l.length:=Nat.mod_lt _ hp;rw[pickOrder.go,gEE hi];dsimp only;refine (mB nx f (k+1) (l.eraseIdx (nx k % l.length)) (o.push l[nx k % l.length]) (by rw[List.length_eraseIdx_of_lt hi];omega)).trans ?_;rw[Array.toList_push,List.append_assoc];refine List.Perm.append_left _ ?_;exact jC _ _ hi
theorem fT {α:Type} (nx:Nat→Nat) (xs:Array α):(pickOrder nx xs).toList.Perm xs.toList:=mB nx xs.size 0 xs.toList #[] (by simp)
section
variable {prog:Program} {w:World} {A:Around} {E:VSP}
theorem rJ {src:Source} {n:Nat} {s:Shared} {Q:Nat→Shared→Prop} (hn:n≠0) (h:∀ i d,i<n→Q i {s with drawn:=d}):wpAny (model prog w) A (choose src n) Q E s:=fun Γ p hΓ=>by
 show Sem.wp _ _ (Sem.choose src n .pure) _ _ _ _;rw[Sem.wp_choose];exact⟨hn,h _ _ (Nat.mod_lt _ (Nat.pos_of_ne_zero hn))⟩
theorem jQ {α:Type}:∀ (n:Nat) (xs:List α) (s:Shared) (Q:List α→Shared→Prop),n=xs.length→(∀ ys d,ys.Perm xs→Q ys {s with drawn:=d})→wpAny (model prog w) A (drawOrder n xs) Q E s
 | 0,xs,s,Q,h,k=>by
  cases List.eq_nil_of_length_eq_zero h.symm;exact wP (k [] s.drawn (List.Perm.refl _))
 | n+1,xs,s,Q,h,k=>by
  cases xs with
  | nil=>cases h
  | cons x r =>
   rw[drawOrder];refine wB (rJ (by simp) fun i d hi=>?_);rw[gEE hi];dsimp only;refine wB (jQ n _ _ _ (by rw[List.length_eraseIdx_of_lt hi];simpa using h) fun ys d2 hp=>wP (k _ d2 ?_));exact (List.Perm.cons _ hp).trans (jC _ _ hi)
   · intro z;cases z
end
def eK (h:Heap) (I a:Addr) (first:Value) (i n ep:Nat):Prop:=h.get? I=some {cls:=.type "set_iterator",data:=.fields #[first,rawInt (i:Int),.ref a,rawInt (n:Int),rawInt (ep:Int)]}
section
variable {prog:Program} {w:World} {A:Around} {E:VSP} {s:Shared} {I a:Addr} {o:Obj} {es:Array (Int×Value)} {ep i:Nat} {t:SetTable}
theorem kH {slot nx:Nat} {v:Value} {Q:Option Value→Shared→Prop} (it:eK s.heap I a (rawInt (slot:Int)) i es.size ep) (ho:s.heap.get? a=some o) (hd:o.data=.set es ep t) (hf:t.fits es.size=true)
 (hN:∀ (A:Around) (E:VSP) (Q:Option (Value×Nat)→Shared→Prop),Q (some (v,nx)) s→wpAny (model prog w) A (setNext a slot i ep) Q E s)
 (h:∀ h',eK h' I a (rawInt (nx:Int)) (i+1) es.size ep→Heap.SameBut I s.heap h'→Q (some v) {s with heap:=h'}):wpAny (model prog w) A (pyNext (.ref I)) Q E s:=by
 have ty:s.TypeIs (.ref I) "set_iterator":=⟨_,it,rfl⟩;unfold pyNext;refine wB (wpAny_attempt (wpAny_callSpecial?_slot (name:=Str.ofString "__next__") ty aX (wpAny_call_entry aX ty cz ?_ (cP _))));unfold Builtin.«set_iterator.__next__»;refine wB (wP ?_);refine wB (wpAny_fieldsOf it rfl ?_);dsimp only[rawInt];refine wB (wpAny_setEntries_of ho hd hf ?_);rw[if_neg (by simp)];simp only[Int.toNat_natCast];refine wB (hN _ _ _ ?_);dsimp only;refine wB (wpAny_setField_rec it (by simp) fun h1 g1 sb1=>?_);refine wB (wpAny_setField_rec g1 (by simp) fun h2 g2 sb2=>?_);refine wP ⟨v,rfl,wP (h h2 ?_ (sb1.trans sb2))⟩;exact g2
theorem iN {Q:Fin→Shared→Prop} (hh:A.handled=none) (hE:∀ h' e,Heap.ExtBut I s.heap h'→(∃ o,h'.get? e=some o∧o.cls=.type "StopIteration")→E (.ref e) {s with heap:=h'}) :
 wpAny (model prog w) A (do let x ← newExc (.type "StopIteration") [];raiseNew x) Q E s:=by
 refine wB ?_;simp only[newExc,newTuple];refine wB (wpAny_newObj_type ?_ (by size_fits));refine wB (m:=firstArgMember _ _) (wpAny_of_eq (a:=Value.none) (by first | rfl | (simp only[firstArgMember];rfl)) (wpAny_newObj_type ?_ (by size_fits)));simp only[raiseNew];refine wB (wpAny_handled (by rw[hh];exact wB (wP (wpAny_throw (hE _ _ ((Heap.ExtBut.refl I s.heap).push _ |>.push _) ⟨_,Heap.get?_push_size _ rfl,rfl⟩)))))
theorem fG {slot:Nat} {Q:Option Value→Shared→Prop} (hh:A.handled=none) (it:eK s.heap I a (rawInt (slot:Int)) i es.size ep) (ho:s.heap.get? a=some o) (hd:o.data=.set es ep t) (hf:t.fits es.size=true)
 (hN:∀ (A:Around) (E:VSP) (Q:Option (Value×Nat)→Shared→Prop),Q none s→wpAny (model prog w) A (setNext a slot i ep) Q E s)
 (h:∀ h',Heap.ExtBut I s.heap h'→Q none {s with heap:=h'}):wpAny (model prog w) A (pyNext (.ref I)) Q E s:=by
 have ty:s.TypeIs (.ref I) "set_iterator":=⟨_,it,rfl⟩;unfold pyNext;refine wB (wpAny_attempt (wpAny_callSpecial?_slot (name:=Str.ofString "__next__") ty aX (wpAny_call_entry aX ty cz ?_ (cP _))));unfold Builtin.«set_iterator.__next__»;refine wB (wP (wB (wpAny_fieldsOf it rfl ?_)));dsimp only[rawInt];refine wB (wpAny_setEntries_of ho hd hf ?_);rw[if_neg (by simp)];simp only[Int.toNat_natCast];refine wB (hN _ _ _ ?_);dsimp only;refine wB (wpAny_setField_rec it (by simp) fun h1 g1 sb1=>?_);refine iN (I:=I) (s:={s with heap:=h1}) hh fun h' e ext he=>?_;obtain⟨q,hq,hc⟩:=he;exact wB (wpAny_isInstance (T:="StopIteration") (b:=true) ⟨q,hq,hc⟩ isSubtype_stop (wP (h _ (sb1.extBut.trans ext))))
theorem qj {TP:Addr} {ps:Array Value} {m pl:Nat} {k:Int} {v:Value} {Q:Option Value→Shared→Prop} {otp:Obj} (it:eK s.heap I a (.ref TP) i es.size ep) (ho:s.heap.get? a=some o) (hd:o.data=.set es ep t) (hf:t.fits es.size=true)
 (hT:s.heap.get? TP=some otp) (hTd:otp.data=.seq ps m) (hp:ps[i]?=some (rawInt (pl:Int))) (hv:es[pl]?=some (k,v))
 (h:∀ h',eK h' I a (.ref TP) (i+1) es.size ep→Heap.SameBut I s.heap h'→Q (some v) {s with heap:=h'}):wpAny (model prog w) A (pyNext (.ref I)) Q E s:=by
 have ty:s.TypeIs (.ref I) "set_iterator":=⟨_,it,rfl⟩;unfold pyNext;refine wB (wpAny_attempt (wpAny_callSpecial?_slot (name:=Str.ofString "__next__") ty aX (wpAny_call_entry aX ty cz ?_ (cP _))));unfold Builtin.«set_iterator.__next__»;refine wB (wP (wB (wpAny_fieldsOf it rfl ?_)));dsimp only[rawInt];refine wB (wpAny_setEntries_of ho hd hf ?_);rw[if_neg (by simp)];simp only[Int.toNat_natCast];refine wB (wpAny_seqItems hT hTd ?_);dsimp only;rw[hp];dsimp only[rawInt];simp only[Int.toNat_natCast];unfold setNextDrawn;refine wB (wB (wpAny_setState_of ho hd hf ?_));dsimp only;rw[if_neg (by simp),hv];refine wP ?_;refine wB (wpAny_setField_rec it (by simp) fun h1 g1 sb1=>wP ⟨v,rfl,wP (h h1 g1 sb1)⟩)
theorem jv {TP:Addr} {ps:Array Value} {m:Nat} {Q:Option Value→Shared→Prop} {otp:Obj} (hh:A.handled=none) (it:eK s.heap I a (.ref TP) i es.size ep) (ho:s.heap.get? a=some o) (hd:o.data=.set es ep t) (hf:t.fits es.size=true)
 (hT:s.heap.get? TP=some otp) (hTd:otp.data=.seq ps m) (hp:ps[i]?=none) (h:∀ h',Heap.ExtBut I s.heap h'→Q none {s with heap:=h'}):wpAny (model prog w) A (pyNext (.ref I)) Q E s:=by
 have ty:s.TypeIs (.ref I) "set_iterator":=⟨_,it,rfl⟩;unfold pyNext;refine wB (wpAny_attempt (wpAny_callSpecial?_slot (name:=Str.ofString "__next__") ty aX (wpAny_call_entry aX ty cz ?_ (cP _))));unfold Builtin.«set_iterator.__next__»;refine wB (wP (wB (wpAny_fieldsOf it rfl ?_)));dsimp only[rawInt];refine wB (wpAny_setEntries_of ho hd hf ?_);rw[if_neg (by simp)];simp only[Int.toNat_natCast];refine wB (wpAny_seqItems hT hTd ?_);dsimp only;rw[hp];dsimp only;refine wB (wpAny_setField_rec it (by simp) fun h1 g1 sb1=>?_);refine wB (wpAny_setField_rec g1 (by simp) fun h2 g2 sb2=>?_);refine iN (I:=I) (s:={s with heap:=h2}) hh fun h' e ext he=>?_;obtain⟨q,hq,hc⟩:=he;exact wB (wpAny_isInstance (T:="StopIteration") (b:=true) ⟨q,hq,hc⟩ isSubtype_stop (wP (h _ ((sb1.trans sb2).extBut.trans ext))))
end
section
variable {prog:Program} {w:World} {A:Around} {E:VSP} {s:Shared} {I a:Addr} {o:Obj} {es:Array (Int×Value)} {ep i:Nat} {t:SetTable}
theorem e8 {Q:Bool→Shared→Prop} (h:Q (w.params.followText "set-order") s):wpAny (model prog w) A setsByText Q E s:=by
 unfold setsByText;exact wB (wpAny_askSetting (wP h))
theorem mt {slot:Nat} {Q:Option (Value×Nat)→Shared→Prop} (hb:w.params.followText "set-order"=true) (ho:s.heap.get? a=some o) (hd:o.data=.set es ep t) (hf:t.fits es.size=true)
 (h:Q (((pickOrder (w.params.setOrder a ep) es)[i]?).map fun e=>(e.2,slot)) s):wpAny (model prog w) A (setNext a slot i ep) Q E s:=by
 unfold setNext;refine wB (wpAny_setState_of ho hd hf ?_);dsimp only;refine wB (e8 ?_);rw[hb];simp only[if_true];rw[if_neg (by simp)];unfold setWalk;refine wB (wB (wpAny_setState_of ho hd hf ?_));dsimp only;refine wB (e8 ?_);rw[hb];simp only[if_true];exact wB (wpAny_askSetting (wP (wP h)))
theorem oW {slot:Nat} {Q:Option (Value×Nat)→Shared→Prop} (hb:w.params.followText "set-order"=false) (hl:t.led=true) (hp:(!t.plain&&decide (es.size>1))=false) (ho:s.heap.get? a=some o) (hd:o.data=.set es ep t) (hf:t.fits es.size=true)
 (h:Q (match es[SetTable.below t.place slot]?,t.place[SetTable.below t.place slot]? with | some (_,x),some j=>some (x,j+1) | _,_=>none) s):wpAny (model prog w) A (setNext a slot i ep) Q E s:=by
 unfold setNext;refine wB (wpAny_setState_of ho hd hf ?_);dsimp only;refine wB (e8 ?_);rw[hb];simp only[Bool.false_eq_true,if_false];show wpAny _ _ (if (!t.plain&&decide (es.size>1))=true then _ else _) _ _ _;rw[if_neg (by rw[hp];exact Bool.false_ne_true)];refine wB ?_;show wpAny _ _ (if (!t.led&&!es.isEmpty)=true then _ else _) _ _ _;rw[if_neg (by rw[hl];simp)];exact wP (wP h)
end
section
variable {prog:Program} {w:World} {A:Around} {E:VSP} {s:Shared} {I a:Addr} {o:Obj} {es:Array (Int×Value)} {ep i:Nat} {t:SetTable}
theorem jR {Q:Bool→Shared→Prop} (ho:s.heap.get? a=some o) (hd:o.data=.set es ep t) (hf:t.fits es.size=true) (h:Q (!w.params.followText "set-order"&&(!t.plain&&decide (es.size>1))) s):wpAny (model prog w) A (setDrawn a) Q E s:=by
 unfold setDrawn;refine wB (wpAny_setState_of ho hd hf ?_);dsimp only;exact wB (e8 (wP h))
abbrev itO (first:Value) (a:Addr) (n ep:Nat):Obj:={cls:=.type "set_iterator",data:=.fields #[first,rawInt 0,.ref a,rawInt (n:Int),rawInt (ep:Int)]}
theorem qu {Q:VSP} (ho:s.heap.get? a=some o) (hx:o.ExactSet) (hd:o.data=.set es ep t) (hf:t.fits es.size=true) (hn:(!w.params.followText "set-order"&&(!t.plain&&decide (es.size>1)))=false)
 (h:Q (.ref s.heap.objs.size) {s with heap:=s.heap.push (itO (rawInt 0) a es.size ep)}):wpAny (model prog w) A (pyIter (.ref a)) Q E s:=by
 have ty:s.TypeIs (.ref a) "set":=⟨_,ho,hx.1⟩;refine wpAny_pyIter_slot ty PySem.F.slot_set_iter (wpAny_call_entry PySem.F.slot_set_iter ty eI ?_ (PySem.F.args_set_iter_1 _));unfold Builtin.«frozenset.__iter__»;refine wB (wP (wB ?_));unfold Builtin.Frozenset.sizeOf;refine wB (wpAny_setEntries_of ho hd hf (wP ?_));refine wB (jR ho hd hf ?_);rw[hn];simp only[Bool.false_eq_true,if_false];refine wB (wP (wB (wpAny_setEpoch_of ho hd hf (wB (wpAny_newObj_type (wP ⟨_,rfl,"set_iterator",_,⟨_,Heap.get?_push_size _ rfl,rfl⟩,aX.lookup,h⟩))))))
abbrev plO (ys:List Nat):Obj:={cls:=.type "tuple",data:=.seq (ys.map fun (i:Nat)=>rawInt (i:Int)).toArray}
theorem qt {Q:VSP} (ho:s.heap.get? a=some o) (hx:o.ExactSet) (hd:o.data=.set es ep t) (hf:t.fits es.size=true) (hz:es.size<scanBound) (hn:(!w.params.followText "set-order"&&(!t.plain&&decide (es.size>1)))=true)
 (h:∀ ys d,ys.Perm (List.range es.size)→Q (.ref (s.heap.objs.size+1)) {s with heap:=(s.heap.push (plO ys)).push (itO (.ref s.heap.objs.size) a es.size ep),drawn:=d}):wpAny (model prog w) A (pyIter (.ref a)) Q E s:=by
 have ty:s.TypeIs (.ref a) "set":=⟨_,ho,hx.1⟩;refine wpAny_pyIter_slot ty PySem.F.slot_set_iter (wpAny_call_entry PySem.F.slot_set_iter ty eI ?_ (PySem.F.args_set_iter_1 _));unfold Builtin.«frozenset.__iter__»;refine wB (wP (wB ?_));unfold Builtin.Frozenset.sizeOf;refine wB (wpAny_setEntries_of ho hd hf (wP ?_));refine wB (jR ho hd hf ?_);rw[hn];simp only[if_true];refine wB (jQ es.size _ _ _ (by simp) fun ys d hp=>?_);have hl:(ys.map fun (i:Nat)=>rawInt (i:Int)).length≤sizeLine:=by
  rw[lMp,hp.length_eq,List.length_range];exact fits_of_scanBound hz
 refine wB (wpAny_newTuple ?_ hl);refine wB (wpAny_setEpoch_of (s:={s with heap:=s.heap.push (plO ys),drawn:=d}) (hpS _ ho) hd hf (wB (wpAny_newObj_type (wP ⟨_,rfl,"set_iterator",_,⟨_,Heap.get?_push_size _ rfl,rfl⟩,aX.lookup,?_⟩))));have e:(s.heap.push (plO ys)).objs.size=s.heap.objs.size+1:=Heap.size_push ..;show Q (.ref (s.heap.push (plO ys)).objs.size) _;rw[e];exact h ys d hp
end
theorem jh {prog:Program} {w:World} {A:Around} {E:VSP} {s:Shared} {I a:Addr} {f:Value} {i n ep:Nat} {Q:VSP} (it:eK s.heap I a f i n ep) (h:Q (.ref I) s):wpAny (model prog w) A (pyIter (.ref I)) Q E s:=by
 have ty:s.TypeIs (.ref I) "set_iterator":=⟨_,it,rfl⟩;refine wpAny_pyIter_slot ty fq (wpAny_call_entry fq ty iB ?_ (jM _));show wpAny _ _ (ret (.ref I)) _ _ s;exact wP ⟨_,rfl,"set_iterator",_,ty,aX.lookup,h⟩
section
variable {prog:Program} {w:World} {A:Around} {I a:Addr} {o:Obj} {es:Array (Int×Value)} {ep:Nat} {t:SetTable}
theorem jw {s:Shared} {h':Heap} (sb:Heap.SameBut I s.heap h'):Moved [I] (fun x y=>y=x) s {s with heap:=h'}:=⟨fun b q hb e=>(sb.2 b fun z=>hb (by rw[z];exact mCS)).trans e,rfl,rfl,rfl,Nat.le_refl _⟩
theorem lv {s:Shared} {h':Heap} (x:Heap.ExtBut I s.heap h'):Moved [I] (fun x y=>y=x) s {s with heap:=h'}:=⟨fun b q hb e=>x b q (fun z=>hb (by rw[z];exact mCS)) e,rfl,rfl,rfl,Nat.le_refl _⟩
theorem mZ (hh:A.handled=none) (ne:a≠I) (hd:o.data=.set es ep t) (hf:t.fits es.size=true) (hb:w.params.followText "set-order"=true) :
 WalksS prog w A I [I,a] [I] (fun x y=>y=x) es.size (fun i v=>∃ k,(pickOrder (w.params.setOrder a ep) es)[i]?=some (k,v)) (fun i s=>s.heap.get? a=some o∧eK s.heap I a (rawInt ((0:Nat):Int)) i es.size ep) where
 sub:=fun b z=>by rw[mSg.mp z];exact mCS
 grefl:=fun _=>rfl
 gtrans:=fun _ _ _ x y=>y.trans x
 frame:=fun i s h' tk st _ k=>⟨k a (by simp) _ st.1,k I (by simp) _ st.2⟩
 item:=fun i s Q E hi st h=>by
  have hz:(pickOrder (w.params.setOrder a ep) es).size=es.size:=by rw[← Array.length_toList,(fT _ es).length_eq,Array.length_toList]
  have hlt:i<(pickOrder (w.params.setOrder a ep) es).size:=by omega
  have hg:(pickOrder (w.params.setOrder a ep) es)[i]?=some (((pickOrder (w.params.setOrder a ep) es)[i]).1,((pickOrder (w.params.setOrder a ep) es)[i]).2):=by rw[Array.getElem?_eq_getElem hlt]
  exact kH st.2 st.1 hd hf (fun A E Q q=>mt hb st.1 hd hf (by rw[hg];exact q)) fun h' it' sb=>h _ _ ⟨_,hg⟩ ⟨(sb.2 a ne).trans st.1,it'⟩ (jw sb)
 done:=fun s Q E st h=>by
  have hz:(pickOrder (w.params.setOrder a ep) es).size=es.size:=by rw[← Array.length_toList,(fT _ es).length_eq,Array.length_toList]
  have hg:(pickOrder (w.params.setOrder a ep) es)[es.size]?=none:=Array.getElem?_eq_none (by omega);exact fG hh st.2 st.1 hd hf (fun A E Q q=>mt hb st.1 hd hf (by rw[hg];exact q)) fun h' x=>h _ (lv x)
 self:=fun i s Q E st h=>jh st.2 h
theorem oJ (hh:A.handled=none) (ne:a≠I) (hd:o.data=.set es ep t) (hf:t.fits es.size=true) (hb:w.params.followText "set-order"=false) (hl:t.led=true) (hp:(!t.plain&&decide (es.size>1))=false) (R:RI t) :
 WalksS prog w A I [I,a] [I] (fun x y=>y=x) es.size (fun i v=>∃ k,es[i]?=some (k,v)) (fun i s=>s.heap.get? a=some o∧eK s.heap I a (rawInt ((if i=0 then 0 else t.place.getD (i-1) 0+1:Nat):Int)) i es.size ep) where
 sub:=fun b z=>by rw[mSg.mp z];exact mCS
 grefl:=fun _=>rfl
 gtrans:=fun _ _ _ x y=>y.trans x
 frame:=fun i s h' tk st _ k=>⟨k a (by simp) _ st.1,k I (by simp) _ st.2⟩
 item:=fun i s Q E hi st h=>by
  have p1:=(by unfold SetTable.fits at hf;rw[Bool.and_eq_true,beq_iff_eq] at hf;exact hf.1:t.place.size=es.size);have eb:SetTable.below t.place (if i=0 then 0 else t.place.getD (i-1) 0+1)=i:=by
   cases i with
   | zero=>rw[if_pos rfl];exact il R.1
   | succ i=>rw[if_neg (Nat.succ_ne_zero _)];exact io R.1 (by rw[p1];exact Nat.lt_of_succ_lt hi)
  have g1:es[i]?=some (es[i].1,es[i].2):=Array.getElem?_eq_getElem hi;have g2:t.place[i]?=some (t.place.getD i 0):=by rw[Array.getElem?_eq_getElem (by rw[p1];exact hi)];simp[Array.getD,p1,hi]
  refine kH (nx:=t.place.getD i 0+1) (v:=es[i].2) st.2 st.1 hd hf (fun A E Q q=>oW hb hl hp st.1 hd hf ?_) fun h' it' sb=>h _ _ ⟨_,g1⟩ ⟨(sb.2 a ne).trans st.1,?_⟩ (jw sb)
  · rw[eb,g1,g2];exact q
  · rw[if_neg (Nat.succ_ne_zero _),Nat.add_sub_cancel];exact it'
 done:=fun s Q E st h=>by
  refine fG hh st.2 st.1 hd hf (fun A E Q q=>oW hb hl hp st.1 hd hf ?_) fun h' x=>h _ (lv x);have p1:=(by unfold SetTable.fits at hf;rw[Bool.and_eq_true,beq_iff_eq] at hf;exact hf.1:t.place.size=es.size);have eb:SetTable.below t.place (if es.size=0 then 0 else t.place.getD (es.size-1) 0+1)=es.size:=by
   by_cases z:es.size=0
   · rw[if_pos z,z];exact il R.1
   · rw[if_neg z];have:=io R.1 (i:=es.size-1) (by omega);omega
  rw[eb,Array.getElem?_eq_none (Nat.le_refl _)];exact q
 self:=fun i s Q E st h=>jh st.2 h
theorem l6 {TP:Addr} {ys:List Nat} (hh:A.handled=none) (ne:a≠I) (nt:TP≠I) (hd:o.data=.set es ep t) (hf:t.fits es.size=true) (hp:ys.Perm (List.range es.size)) :
 WalksS prog w A I [I,a,TP] [I] (fun x y=>y=x) es.size (fun i v=>∃ p k,ys[i]?=some p∧es[p]?=some (k,v)) (fun i s=>s.heap.get? a=some o∧s.heap.get? TP=some (plO ys)∧eK s.heap I a (.ref TP) i es.size ep) where
 sub:=fun b z=>by rw[mSg.mp z];exact mCS
 grefl:=fun _=>rfl
 gtrans:=fun _ _ _ x y=>y.trans x
 frame:=fun i s h' tk st _ k=>⟨k a (by simp) _ st.1,k TP (by simp) _ st.2.1,k I (by simp) _ st.2.2⟩
 item:=fun i s Q E hi st h=>by
  have hy:ys.length=es.size:=by rw[hp.length_eq,List.length_range]
  have hlt:i<ys.length:=by omega
  have hm:ys[i]<es.size:=List.mem_range.mp (hp.mem_iff.mp (List.getElem_mem hlt));have hv:es[ys[i]]?=some ((es[ys[i]]).1,(es[ys[i]]).2):=by rw[Array.getElem?_eq_getElem hm]
  refine qj st.2.2 st.1 hd hf st.2.1 rfl (pl:=ys[i]) ?_ hv fun h' it' sb=>h _ _ ⟨ys[i],_,gEE hlt,hv⟩ ⟨(sb.2 a ne).trans st.1,(sb.2 TP nt).trans st.2.1,it'⟩ (jw sb);rw[List.getElem?_toArray,gEM,gEE hlt];rfl
 done:=fun s Q E st h=>by
  have hy:ys.length=es.size:=by rw[hp.length_eq,List.length_range]
  refine jv hh st.2.2 st.1 hd hf st.2.1 rfl ?_ fun h' x=>h _ (lv x);rw[List.getElem?_toArray,gEM,List.getElem?_eq_none (by omega)];rfl
 self:=fun i s Q E st h=>jh st.2.2 h
end
theorem ic {P:Nat→Value→Prop} {acc:Array Value} {l:List Value} (h:ItemsOf P acc l.length) (k:∀ j v,P j v→l[j]?=some v):acc.toList=l:=by
 refine List.ext_getElem (by rw[Array.length_toList,h.1]) fun j h1 h2=>?_;have e:=k j _ (h.2 j _ (Array.getElem?_eq_getElem (by simpa using h1)));rw[gEE h2] at e;rw[Array.getElem_toList];exact (Option.some.inj e).symm
section
variable {prog:Program} {w:World} {A:Around} {E:VSP} {s:Shared} {a:Addr} {ss:List Int} {n:Nat} {o:Obj} {es:Array (Int×Value)} {ep:Nat} {t:SetTable}
theorem qv (S:dB prog w s.heap a ss n o es ep t) {Q:VSP}
 (h:∀ (I:Addr) (fp:List Addr) (P:Nat→Value→Prop) (St:Nat→Shared→Prop) (h':Heap) (d:Drawn),(∀ A':Around,A'.handled=none→WalksS prog w A' I fp [I] (fun x y=>y=x) es.size P St)→St 0 {s with heap:=h',drawn:=d}→(∀ b∈fp,b<h'.objs.size)→I∈fp→s.heap.objs.size≤I→(∀ b∈fp,b=a∨s.heap.objs.size≤b) →
   (∀ b q,s.heap.get? b=some q→h'.get? b=some q)→(∀ acc,ItemsOf P acc es.size→acc.toList.Perm (es.toList.map (·.2)))→Q (.ref I) {s with heap:=h',drawn:=d}):wpAny (model prog w) A (pyIter (.ref a)) Q E s:=by
 have la:a<s.heap.objs.size:=Heap.lt_size S.at_;have hz:es.size<scanBound:=Nat.lt_trans S.sz (by decide);cases hc:(!w.params.followText "set-order"&&(!t.plain&&decide (es.size>1))) with
 | true =>
  refine qt S.at_ S.ex S.dt S.ft hz hc fun ys d hp=>?_;have e1:(s.heap.push (plO ys)).objs.size=s.heap.objs.size+1:=Heap.size_push ..;have hI:((s.heap.push (plO ys)).push (itO (.ref s.heap.objs.size) a es.size ep)).get? (s.heap.objs.size+1)=some (itO (.ref s.heap.objs.size) a es.size ep):=by rw[← e1];exact Heap.get?_push_size _ rfl
  have hTP:((s.heap.push (plO ys)).push (itO (.ref s.heap.objs.size) a es.size ep)).get? s.heap.objs.size=some (plO ys):=hpS _ (Heap.get?_push_size _ rfl);have up:∀ b q,s.heap.get? b=some q→((s.heap.push (plO ys)).push (itO (.ref s.heap.objs.size) a es.size ep)).get? b=some q:=fun b q e=>hpS _ (hpS _ e);refine h (s.heap.objs.size+1) _ _ _ _ d (fun A' hA=>l6 (TP:=s.heap.objs.size) hA (Nat.ne_of_lt (Nat.lt_succ_of_lt la)) (Nat.ne_of_lt (Nat.lt_succ_self _)) S.dt S.ft hp) ⟨up _ _ S.at_,hTP,hI⟩ (fun b hb=>?_) (by simp) (Nat.le_succ _) (fun b hb=>?_) up fun acc hi=>?_
  · simp only[List.mem_cons,nMN,or_false] at hb
    rcases hb with rfl | rfl | rfl
    · exact Heap.lt_size hI
    · exact Heap.lt_size (up _ _ S.at_)
    · exact Heap.lt_size hTP
  · simp only[List.mem_cons,nMN,or_false] at hb
    rcases hb with rfl | rfl | rfl
    · exact .inr (Nat.le_succ _)
    · exact .inl rfl
    · exact .inr (Nat.le_refl _)
  · have hy:ys.length=es.size:=by rw[hp.length_eq,List.length_range]
    let g:Nat→Value:=fun p=>((es[p]?).map (·.2)).getD .none
    have e:acc.toList=ys.map g:=ic (by rw[lMp,hy];exact hi) fun j v z=>by
     obtain⟨p,k,z1,z2⟩:=z;rw[gEM,z1];show some (((es[p]?).map (·.2)).getD .none)=some v;rw[z2];rfl
    rw[e];refine (hp.map g).trans ?_;have e2:(List.range es.size).map g=es.toList.map (·.2):=by
     refine List.ext_getElem (by simp) fun j h1 h2=>?_;rw[List.getElem_map,List.getElem_range,List.getElem_map,Array.getElem_toList];show ((es[j]?).map (·.2)).getD .none=_;rw[Array.getElem?_eq_getElem (by simpa using h2)];rfl
    rw[e2]
 | false =>
  refine qu S.at_ S.ex S.dt S.ft hc ?_;have hI:(s.heap.push (itO (rawInt 0) a es.size ep)).get? s.heap.objs.size=some (itO (rawInt 0) a es.size ep):=Heap.get?_push_size _ rfl;have up:∀ b q,s.heap.get? b=some q→(s.heap.push (itO (rawInt 0) a es.size ep)).get? b=some q:=fun b q e=>hpS _ e;have lt:∀ b∈[s.heap.objs.size,a],b<(s.heap.push (itO (rawInt 0) a es.size ep)).objs.size:=fun b hb=>by
   simp only[List.mem_cons,nMN,or_false] at hb
   rcases hb with rfl | rfl
   · exact Heap.lt_size hI
   · exact Heap.lt_size (up _ _ S.at_)
  have ge:∀ b∈[s.heap.objs.size,a],b=a∨s.heap.objs.size≤b:=fun b hb=>by
   simp only[List.mem_cons,nMN,or_false] at hb
   rcases hb with rfl | rfl
   · exact .inr (Nat.le_refl _)
   · exact .inl rfl
  cases hb:w.params.followText "set-order" with
  | true =>
   refine h s.heap.objs.size [s.heap.objs.size,a] _ _ _ s.drawn (fun A' hA=>mZ hA (Nat.ne_of_lt la) S.dt S.ft hb) ⟨up _ _ S.at_,hI⟩ lt (by simp) (Nat.le_refl _) ge up fun acc hi=>?_;have pp:=fT (w.params.setOrder a ep) es;have e:acc.toList=(pickOrder (w.params.setOrder a ep) es).toList.map (·.2):=ic (by rw[lMp,pp.length_eq,Array.length_toList];exact hi) fun j v z=>by
    obtain⟨k,z⟩:=z;rw[gEM,Array.getElem?_toList,z];rfl
   rw[e];exact pp.map _
  | false =>
   have hp1:(!t.plain&&decide (es.size>1))=false:=by rw[hb] at hc;simpa using hc
   refine h s.heap.objs.size [s.heap.objs.size,a] _ _ _ s.drawn (fun A' hA=>oJ hA (Nat.ne_of_lt la) S.dt S.ft hb (by rw[S.ld,hb];rfl) hp1 S.pl) ⟨up _ _ S.at_,hI⟩ lt (by simp) (Nat.le_refl _) ge up fun acc hi=>?_;have e:acc.toList=es.toList.map (·.2):=ic (by rw[lMp,Array.length_toList];exact hi) fun j v z=>by
    obtain⟨k,z⟩:=z;rw[gEM,Array.getElem?_toList,z];rfl
   rw[e]
theorem kN (hh:A.handled=none) (S:dB prog w s.heap a ss n o es ep t) {Q:List Value→Shared→Prop}
 (h:∀ (vs:List Value) h' d tk,vs.Perm (es.toList.map (·.2))→(∀ b q,s.heap.get? b=some q→h'.get? b=some q)→Q vs {s with heap:=h',drawn:=d,toks:=tk}):wpAny (model prog w) A (collect (.ref a)) Q E s:=by
 have la:a<s.heap.objs.size:=Heap.lt_size S.at_;unfold collect;refine wB (wpAny_runValue (codeAny_builtin PySem.F.entry_proto_collect (by
   rw[Around.under_plainId PySem.F.plain_proto_collect _];show wpAny _ A.in1 (newList []>>=fun l=>again (.builtin "list.__iadd__" ⟨[l,.ref a],[]⟩)) _ _ s;refine wB (wpAny_newObj_type (wP ⟨plainId_quiet PySem.F.plain_list_iadd _,codeAny_builtin PySem.F.entry_list_iadd ?_⟩));rw[Around.under_plainId PySem.F.plain_list_iadd _];have S1:dB prog w (s.heap.push {cls:=.type "list",data:=.seq ([]:List Value).toArray}) a ss n o es ep t:=S.of_same (hpS _ S.at_);have ty:Shared.TypeIs {s with heap:=s.heap.push {cls:=.type "list",data:=.seq ([]:List Value).toArray}} (.ref a) "set":=⟨_,S1.at_,S1.ex.1⟩;have h1:Builtin.List.listSameRef (.ref s.heap.objs.size) (.ref a)=false:=by simp[Builtin.List.listSameRef];exact Nat.ne_of_gt la
   show wpAny _ A.in1 (Builtin.List.listExtendWith (.ref s.heap.objs.size) (.ref a) (.ref s.heap.objs.size)) _ _ _;unfold Builtin.List.listExtendWith;refine wB (wpAny_typeOf ty ?_);rw[if_neg (by rw[h1];decide)];refine wB (qv S1 fun I fp P St h2 d W st lt mI gI ge up pm=>?_);have ty2:Shared.TypeIs {s with heap:=h2,drawn:=d} (.ref a) "set":=⟨_,up _ _ S1.at_,S1.ex.1⟩;refine wB (wpAny_holding ?_);unfold Builtin.List.listLengthHint;refine wB (wpAny_specialOf ty2 PySem.F.slot_set_len.lookup ?_);dsimp only;rw[show splitId "set.__len__"=some ("set","__len__") by decide +kernel];refine wB (wpAny_isInstance (b:=true) ty2 sub_set_self ?_);simp only[Bool.not_true,Bool.false_eq_true,if_false];rw[if_pos]
   rotate_left
   · decide +kernel
   refine wB (wpAny_typeOf ty2 ?_);dsimp only;refine wP ?_;rw[if_pos]
   rotate_left
   · decide +kernel
   have hS:h2.get? s.heap.objs.size=some {cls:=.type "list",data:=.seq ([]:List Value).toArray}:=up _ _ (Heap.get?_push_size _ rfl);have nS:s.heap.objs.size∉fp:=fun z=>by
     rcases ge _ z with q | q
     · exact Nat.ne_of_gt la q
     · exact absurd (show (s.heap.push _).objs.size≤_ from q) (by rw[Heap.size_push];exact Nat.not_succ_le_self _)
   refine wB (wpAny_rule (wB ?_));unfold Builtin.List.listTouch;refine wB (wpAny_updateSeq hS rfl ?_);have hS1:=Heap.get?_update_self (Obj.mapSeq fun x=>x.push Value.none) hS rfl;refine wpAny_updateSeq hS1 rfl ?_;have hS2:=Heap.get?_update_self (Obj.mapSeq fun x=>x.pop) hS1 rfl;have k2:∀ b q,b≠s.heap.objs.size→h2.get? b=some q→((h2.update s.heap.objs.size (Obj.mapSeq fun x=>x.push Value.none)).update s.heap.objs.size (Obj.mapSeq fun x=>x.pop)).get? b=some q:=fun b q nb e=>(Heap.get?_update_other _ _ (Ne.symm nb)).trans ((Heap.get?_update_other _ _ (Ne.symm nb)).trans e);have W1:=W A.in1.in1 hh;have st1:=W1.frame 0 _ ((h2.update s.heap.objs.size (Obj.mapSeq fun x=>x.push Value.none)).update s.heap.objs.size (Obj.mapSeq fun x=>x.pop)) s.toks st (Nat.le_refl _) fun b hb q e=>k2 b q (fun z=>nS (by rw[← z];exact hb)) e;refine wP ⟨plainId_quiet PySem.F.plain_extend_loop _,codeAny_extend_loopS (W A.in1 hh) (fits_of_scanBound (Nat.lt_trans S.sz (by decide))) _ nS _ es.size 0 _ _ _ rfl (Nat.zero_le _) st1 hS2 (ItemsOf.nil P) fun s3 acc c3 hm hS3 hacc=>?_⟩;show wpAny _ A (load s.heap.objs.size>>=_) _ _ s3;refine wB (wpAny_load hS3 ?_);obtain⟨h3,g3,d3,tk3,os3⟩:=s3;obtain rfl:g3=s.gens:=hm.gens;obtain rfl:d3=d:=hm.drawn;obtain rfl:os3=s.os:=hm.os;refine wP (h _ h3 d3 tk3 (pm acc hacc) fun b q e=>?_);have lb:=Heap.lt_size e;refine hm.heap b q (fun z=>?_) (k2 b q (Nat.ne_of_lt lb) (up _ _ (hpS _ e)));simp only[List.mem_cons,nMN,or_false] at z
   rcases z with z | z
   · exact Nat.ne_of_lt lb z
   · have gI':(s.heap.push {cls:=.type "list",data:=.seq ([]:List Value).toArray}).objs.size≤I:=gI;rw[Heap.size_push] at gI';rw[z] at lb;exact absurd (Nat.lt_of_lt_of_le lb (Nat.le_trans (Nat.le_succ _) gI')) (Nat.lt_irrefl _))))
end
end L2
namespace L2
open PySem PySem.Spec PyProof.Rows PySem.W
def cX {α:Type} (P:Nat→Nat→Prop) (R:α→Prop):KasT α→Prop
  | .ret a=>R a
  | .ask i j k=>P i j∧∀ b,cX P R (k b)
theorem cX.bind {α β:Type} {P:Nat→Nat→Prop} {R:α→Prop} {R':β→Prop} {f:α→KasT β} (hf:∀ a,R a→cX P R' (f a)):∀ (t:KasT α),cX P R t→cX P R' (t.bind f):=by
 intro t
 induction t with
 | ret a=>exact fun h=>hf a h
 | ask i j k ih=>exact fun h=>⟨h.1,fun b=>ih b (h.2 b)⟩
theorem cX.wp {α:Type} {P:Nat→Nat→Prop} {R:α→Prop} {Q:α→Shared→Prop} {s:Shared} {cmp:Nat→Nat→(Bool→Shared→Prop)→Shared→Prop} (hc:∀ i j C,P i j→(∀ b,C b s)→cmp i j C s) (hq:∀ a,R a→Q a s):∀ (t:KasT α),cX P R t→t.kasWp cmp Q s:=by
 intro t
 induction t with
 | ret a=>exact fun h=>hq a h
 | ask i j k ih=>exact fun h=>hc i j _ h.1 fun b=>ih b (h.2 b)
def bJ (n:Nat) (p:Array Nat):Prop:=0<n∧∀ x∈p,x<n
theorem bJ.get {n:Nat} {p:Array Nat} (h:bJ n p) (i:Nat):p.getD i 0<n:=by
 by_cases hi:i<p.size
 · have:p.getD i 0=p[i]:=by simp[Array.getD,hi]
   rw[this];exact h.2 _ (Array.getElem_mem hi)
 · have:p.getD i 0=0:=by simp[Array.getD,hi]
   rw[this];exact h.1
theorem bJ.perm {n:Nat} {p q:Array Nat} (h:bJ n p) (e:q.Perm p):bJ n q:=⟨h.1,fun x hx=>h.2 x (e.mem_iff.mp hx)⟩
theorem bJ.rev {n:Nat} {p:Array Nat} (h:bJ n p) (i j:Nat):bJ n (kas_rev p i j):=h.perm (mirror_perm _ _ _ _)
abbrev PB (n:Nat):Nat→Nat→Prop:=fun i j=>i<n∧j<n
theorem mR {n:Nat} {p:Array Nat} (h:bJ n p):∀ (f m:Nat),cX (PB n) (fun _=>True) (kas_asc p f m):=by
 intro f
 induction f with
 | zero=>exact fun m=>trivial
 | succ f ih =>
  intro m;refine⟨⟨h.get _,h.get _⟩,fun b=>?_⟩;cases b with
  | true=>exact trivial
  | false=>exact ih _
theorem qT {n:Nat}:∀ (f:Nat) (p:Array Nat) (m q:Nat),bJ n p→cX (PB n) (fun r=>bJ n r.1) (kas_desc f p m q):=by
 intro f
 induction f with
 | zero=>exact fun p m q h=>h
 | succ f ih =>
  intro p m q h;refine⟨⟨h.get _,h.get _⟩,fun b=>?_⟩;cases b with
  | true =>
   show cX _ _ (if q>0 then kas_desc f (kas_rev p (m-(q+1)) m) (m+1) 0 else kas_desc f p (m+1) 0);split
   · exact ih _ _ _ (h.rev _ _)
   · exact ih _ _ _ h
  | false =>
   refine⟨⟨h.get _,h.get _⟩,fun d=>?_⟩;cases d with
   | true=>exact h
   | false=>exact ih _ _ _ h
theorem ja {n:Nat} (m nrem:Nat) {p:Array Nat} (h:bJ n p):cX (PB n) (fun r=>bJ n r.2) (kas_tail3 m nrem p):=by
 refine cX.bind (R:=fun _=>True) (fun a _=>?_) _ (mR (h.rev 0 m) (nrem-m) m);exact h.rev 0 m
theorem fM {n:Nat} (m nrem:Nat) {p:Array Nat} (h:bJ n p):cX (PB n) (fun r=>bJ n r.2) (kas_descPart m nrem p):=by
 refine cX.bind (fun r hr=>?_) _ (qT _ _ _ _ h);split
 · exact ja _ _ (hr.rev _ _)
 · exact ja _ _ hr
theorem ou {n:Nat} (nrem:Nat) {p:Array Nat} (h:bJ n p):cX (PB n) (fun r=>bJ n r.2) (kas_count nrem p):=by
 refine cX.bind (fun m _=>?_) _ (mR h _ _);split
 · exact h
 · split
   · refine⟨⟨h.get _,h.get _⟩,fun b=>?_⟩;cases b with
     | true=>exact h
     | false=>exact fM _ _ (h.rev _ _)
   · exact fM _ _ h
theorem oq {n:Nat} {p:Array Nat} (h:bJ n p) (k:Nat):∀ (f l r:Nat),cX (PB n) (fun _=>True) (kas_place p k f l r):=by
 intro f
 induction f with
 | zero=>exact fun l r=>trivial
 | succ f ih =>
  intro l r;show cX _ _ (if l≥r then .ret l else .ask (p.getD k 0) (p.getD ((l+r) / 2) 0) fun c=>if c=true then kas_place p k f l ((l+r) / 2) else kas_place p k f ((l+r) / 2+1) r);split
  · exact trivial
  · refine⟨⟨h.get _,h.get _⟩,fun b=>?_⟩;cases b with
    | true=>exact ih _ _
    | false=>exact ih _ _
theorem tI {n:Nat}:∀ (f:Nat) (p:Array Nat) (k:Nat),bJ n p→cX (PB n) (bJ n) (kas_bin f p k):=by
 intro f
 induction f with
 | zero=>exact fun p k h=>h
 | succ f ih=>exact fun p k h=>cX.bind (fun l _=>ih _ _ (h.perm (bubble_perm _ _ _))) _ (oq h _ _ _ _)
theorem qS {n:Nat} (h0:0<n):cX (PB n) (bJ n) (kas_sort n):=by
 have h:bJ n (List.toArray (List.range n)):=⟨h0,fun x hx=>by simpa using hx⟩;refine cX.bind (fun r hr=>?_) _ (ou _ h);split
 · exact tI _ _ _ hr
 · exact hr
def eX (h:Heap) (v:Value):Prop:=∃ a o x t i u n,v=.ref a∧h.get? a=some o∧o.cls=.type "tuple"∧o.data=.seq #[.str x t,.int i u] n
section
variable {prog:Program} {w:World} {A:Around} {E:VSP} {s:Shared}
theorem sK {v1 v2:Value} (h1:eX s.heap v1) (h2:eX s.heap v2) {C:Bool→Shared→Prop} (hC:∀ b,C b s):wpAny (model prog w) A (keyLt' (tuples' true) v1 v2) C E s:=by
 obtain⟨a1,o1,x1,t1,i1,u1,n1,rfl,g1,c1,d1⟩:=h1;obtain⟨a2,o2,x2,t2,i2,u2,n2,rfl,g2,c2,d2⟩:=h2;refine kat_lt g1 d1 g2 d2 ?_;refine kat_cons (eqBool_str ?_);refine kat_go (fun _=>kat_yes ?_) (fun _=>kat_no (oneLt_str (hC _)));refine kat_cons (wpAny_eqBool_int ?_);exact kat_go (fun _=>kat_yes (kat_nil (hC _))) (fun _=>kat_no (kat_one _ _ (PyProof.Rows.lt_int (hC _))))
theorem gq {a:Addr} {vs:List Value} {n:Nat} {P:PySem.Fin→Shared→Prop} (ho:s.heap.get? a=some (seqObj "list" vs.toArray n)) (ht:∀ v∈vs,eX s.heap v) (h64:vs.length<64)
 (h:∀ out:Array Value,(∀ v∈out.toList,v∈vs)→out.size=vs.length→P (.done (.ret .none)) {s with heap:=sortedHeap s.heap a vs out}) :
 wpAny (model prog w) A (Builtin.«list.sort» ⟨[.ref a],[]⟩) P E s:=by
 rw[list_sort_plain];have ha:a<s.heap.objs.size:=Heap.lt_size ho;refine wB (listItems_at ho rfl ?_);refine wB (listUpdate_at ho rfl ?_);obtain⟨e1,ho1⟩:∃ e1,(s.heap.update a (Obj.mapSeq fun _=>#[])).get? a=some (seqObj "list" #[] e1):=⟨_,get?_update_seq ho (fun _=>#[])⟩;refine wB (seqEpoch_at ho1 rfl ?_);refine wB (wpAny_newTuple ?_);refine wB (wpAny_newList ?_);refine wpAny_holding ?_;have ho6:(((s.heap.update a (Obj.mapSeq fun _=>#[])).push (seqObj "tuple" vs.toArray 0)).push (seqObj "list" #[] 0)).get? a=some (seqObj "list" #[] e1):=by
  rw[Heap.get?_push_ne _ _ _ (by rw[size_push',Heap.size_update];exact Nat.ne_of_lt (Nat.lt_succ_of_lt ha)),Heap.get?_push_ne _ _ _ (by rw[Heap.size_update];exact Nat.ne_of_lt ha)];exact ho1
 have ht6:∀ v∈vs,eX (((s.heap.update a (Obj.mapSeq fun _=>#[])).push (seqObj "tuple" vs.toArray 0)).push (seqObj "list" #[] 0)) v:=fun v hv=>by
  obtain⟨b,o,x,t,i,u,k,rfl,g,c,d⟩:=ht v hv;have ne:b≠a:=fun e=>by
   rw[e,ho] at g;cases g;exact absurd (show Value.type "list"=Value.type "tuple" from c) (by decide)
  exact⟨b,o,x,t,i,u,k,rfl,hpS _ (hpS _ (by rw[Heap.get?_update_ne _ _ _ _ ne];exact g)),c,d⟩
 show wpAny (model prog w) A _ P E {s with heap:=((s.heap.update a (Obj.mapSeq fun _=>#[])).push (seqObj "tuple" vs.toArray 0)).push (seqObj "list" #[] 0)};dsimp only;have hsz:vs.toArray.size=vs.length:=by simp
 by_cases h2:vs.toArray.size<2
 · rw[if_pos h2,if_pos h2];refine wB (wP ?_);rw[StateT.run_pure];refine wB (wP ?_);dsimp only;refine wB (seqEpoch_at ho6 rfl ?_);refine wB (listUpdate_at ho6 rfl ?_ (hsz2:=by rw[Array.size_map];show (pairsOf vs).size≤_;rw[pairsOf_size,sizeLine_eq];lia));simp only[bne_self_eq_false,Bool.false_eq_true,if_false];refine wP (h _ (fun v hv=>?_) ?_)
   · have e:((arrOf (SortSt.mk' general' (vs.toArray.zip vs.toArray) #[] 7 none)).map (·.2)).toList=vs:=by
      show ((vs.toArray.zip vs.toArray).map (·.2)).toList=vs;simp[List.map_snd_zip]
     rw[e] at hv;exact hv
   · show ((vs.toArray.zip vs.toArray).map (·.2)).size=vs.length;simp
 · rw[if_neg h2,if_neg h2];have hpos:0<vs.length:=by lia
   obtain⟨fs,kt,hfl,hfs⟩:∃ fs,KatTups (((s.heap.update a (Obj.mapSeq fun _=>#[])).push (seqObj "tuple" vs.toArray 0)).push (seqObj "list" #[] 0)) vs fs∧fs.length=vs.length∧∀ v∈fs,∃ x t,v=Value.str x t:=by
    clear h hpos h64 hsz h2 ho6;generalize (((s.heap.update a (Obj.mapSeq fun _=>#[])).push (seqObj "tuple" vs.toArray 0)).push (seqObj "list" #[] 0))=hh at ht6;clear ht ho ho1
    induction vs with
    | nil=>exact⟨[],KatTups.nil,rfl,fun v hv=>by cases hv⟩
    | cons v r ih =>
     obtain⟨fs,k1,k2,k3⟩:=ih fun y hy=>ht6 y (mCM _ hy);obtain⟨b,o,x,t,i,u,k,rfl,g,c,d⟩:=ht6 v mCS;refine⟨.str x t::fs,KatTups.cons g c d rfl k1,by simp[k2],fun y hy=>?_⟩
     rcases List.mem_cons.mp hy with rfl | hy
     · exact⟨x,t,rfl⟩
     · exact k3 y hy
   refine wB (kat_kind (T:=.type "str") kt (by lia) (fun v hv=>?_) (by decide) ?_)
   · obtain⟨x,t,rfl⟩:=hfs v hv;exact .now
   · have hk:(kas_sort vs.length).kasWp (kas_ask prog w A (tuples' (Value.type "str" != Value.type "tuple")) vs) (fun p s'=>bJ vs.length p∧s'={s with heap:=((s.heap.update a (Obj.mapSeq fun _=>#[])).push (seqObj "tuple" vs.toArray 0)).push (seqObj "list" #[] 0)}) {s with heap:=((s.heap.update a (Obj.mapSeq fun _=>#[])).push (seqObj "tuple" vs.toArray 0)).push (seqObj "list" #[] 0)}:=by
      refine cX.wp (R:=bJ vs.length) (fun i j C hij hC=>?_) (fun p hp=>⟨hp,rfl⟩) _ (qS hpos);have gi:vs.getD i Value.none∈vs:=by
       rw[List.getD_eq_getElem?_getD,gEE hij.1];exact List.getElem_mem hij.1
      have gj:vs.getD j Value.none∈vs:=by
       rw[List.getD_eq_getElem?_getD,gEE hij.2];exact List.getElem_mem hij.2
      exact sK (ht6 _ gi) (ht6 _ gj) hC
     refine wB (wpAny_mono (kat_run (Q:=fun st' s'=>∃ p:Array Nat,p.size=vs.length∧arrOf st'=p.map (kas_item (vs.toArray.zip vs.toArray))∧failedOf st'=none∧bJ vs.length p∧s'={s with heap:=((s.heap.update a (Obj.mapSeq fun _=>#[])).push (seqObj "tuple" vs.toArray 0)).push (seqObj "list" #[] 0)})
       rfl (by lia) h64 (fun p' st' s' a1 a2 a3 a4=>⟨p',a1,a2,a3,a4⟩) hk) ?_ fun _ _ e=>e)
     rintro⟨⟨⟩,st'⟩ s' ⟨p,hp,har,hf,hsm,rfl⟩;dsimp only;have hout:=kat_snds rfl har;rw[hout];refine wB (seqEpoch_at ho6 rfl ?_);refine wB (listUpdate_at ho6 rfl ?_ (hsz2:=by rw[List.size_toArray,lMp,Array.length_toList,hp,sizeLine_eq];lia));rw[hf];simp only[bne_self_eq_false,Bool.false_eq_true,if_false];refine wP (h _ (fun v hv=>?_) (by rw[List.size_toArray,lMp,Array.length_toList,hp]));have hv':v∈p.toList.map fun i=>vs.getD i Value.none:=hv;obtain⟨i,hi,rfl⟩:=List.mem_map.mp hv';have hil:i<vs.length:=hsm.2 i (by simpa using hi);rw[List.getD_eq_getElem?_getD];rw[gEE hil];exact List.getElem_mem hil
theorem jf {l:Addr} {vs:List Value} {Q:VSP} (hl:s.heap.IsList l vs.toArray) (ht:∀ v∈vs,eX s.heap v) (h64:vs.length<64)
 (h:∀ out:Array Value,(∀ v∈out.toList,v∈vs)→out.size=vs.length→Q (.ref (s.heap.objs.size+1)) {s with heap:=sortedAll s.heap vs out}) :
 wpAny (model prog w) A (call (.builtin "sorted") [.ref l]) Q E s:=by
 refine Calls.call_function_entry kind_sorted plain_sorted entry_sorted (args_sorted1 _) ?_;unfold Builtin.«sorted»;refine wB (m:=checkCount "sorted" 1 1 _) (wP ?_);refine wB (collect_list hl ?_);refine wB (wpAny_newList ?_);have hsz:((s.heap.push (seqObj "list" #[] 0)).update s.heap.objs.size (Obj.mapSeq (·++vs.toArray))).objs.size=s.heap.objs.size+1:=by
  rw[Heap.size_update,size_push']
 have hoL:(((s.heap.push (seqObj "list" #[] 0)).update s.heap.objs.size (Obj.mapSeq (·++vs.toArray))).push (seqObj "list" vs.toArray 0)).get? (s.heap.objs.size+1)=some (seqObj "list" vs.toArray 0):=by
  rw[← hsz];exact Heap.get?_push_size _ rfl
 have ht':∀ v∈vs,eX (((s.heap.push (seqObj "list" #[] 0)).update s.heap.objs.size (Obj.mapSeq (·++vs.toArray))).push (seqObj "list" vs.toArray 0)) v:=fun v hv=>by
  obtain⟨b,o,x,t,i,u,k,rfl,g,c,d⟩:=ht v hv;have hlt:b<s.heap.objs.size:=Heap.lt_size g;refine⟨b,o,x,t,i,u,k,rfl,hpS _ ?_,c,d⟩;rw[Heap.get?_update_ne _ _ _ _ (Nat.ne_of_lt hlt)];exact hpS _ g
 show wpAny _ _ _ _ _ {s with heap:=((s.heap.push (seqObj "list" #[] 0)).update s.heap.objs.size (Obj.mapSeq (·++vs.toArray))).push (seqObj "list" vs.toArray 0)};rw[hsz];refine wB (wpAny_holding (wpAny_call_entry slot_list_sort ⟨_,hoL,rfl⟩ entry_list_sort (gq (s:={s with heap:=((s.heap.push (seqObj "list" #[] 0)).update s.heap.objs.size (Obj.mapSeq (·++vs.toArray))).push (seqObj "list" vs.toArray 0)}) hoL ht' h64 fun out a1 a2=>⟨_,rfl,?_⟩) (args_list_sort _)));exact wP ⟨_,rfl,h out a1 a2⟩
end
theorem dA:bootBuiltins "sorted"=some (.builtin "sorted"):=by decide +kernel
def tW (K:Fg):List V→Hp→VK→Prop:=fun xs H Q=>∃ (p:Addr) (ys:List V),xs=[.ref p]∧SqL K H p ys∧ys.length<60∧(∀ y∈ys,∃ (a:Addr) (x:Str) (i:Int),y=.ref a∧H a=some (.tup [.str x,.int i]))∧∀ (l:Addr) (zs:List V),H l=none→zs.length=ys.length→Q (.ref l) (upd H l (.lst zs))
theorem jU {ys:List V} {vs:List Value} (h:aO ys vs):∀ v∈vs,∃ y∈ys,aM y v:=by
 induction h with
 | nil=>exact fun v hv=>by cases hv
 | cons r t ih =>
  intro v hv
  rcases List.mem_cons.mp hv with rfl | hv
  · exact⟨_,mCS,r⟩
  · obtain⟨y,hy,ry⟩:=ih v hv;exact⟨y,mCM _ hy,ry⟩
theorem n0 {ys:List V} {vs:List Value} (h:aO ys vs):∀ out:List Value,(∀ v∈out,v∈vs)→∃ zs,aO zs out:=by
 intro out
 induction out with
 | nil=>exact fun _=>⟨[],.nil⟩
 | cons v r ih =>
  intro hv;obtain⟨zs,hz⟩:=ih fun y hy=>hv y (mCM _ hy);obtain⟨y,_,ry⟩:=jU h v (hv v mCS);exact⟨y::zs,.cons ry hz⟩
section
variable {X:Cx}
theorem jH:eL X (.builtin "sorted") (tW X.K):=by
 intro pins s σ H xs us Q I rv h;obtain⟨p,ys,rfl,hq,hl,hp,q⟩:=h;obtain⟨u,rfl,ru⟩:=iK rv;cases ru;obtain⟨its,rvs,pl,hz⟩:=I.list hq;have hlen:=rvs.length;have hpairs:∀ v∈its,eX s.heap v:=fun v hv=>by
  obtain⟨y,hy,ry⟩:=jU rvs v hv;obtain⟨a,x,i,rfl,ha⟩:=hp y hy;cases (show v=Value.ref a from ry);obtain⟨its2,r2,⟨o,g1,g2,n,g3⟩,_⟩:=I.tuple (SqT.of ha);obtain⟨u1,u2,e,⟨t1,rfl⟩,⟨t2,rfl⟩⟩:=r2.two;refine⟨a,o,x,t1,i,t2,n,rfl,g1,g2,?_⟩;rw[g3,e]
 refine jf pl.isList hpairs (by lia) fun out a1 a2=>?_;obtain⟨zs,rz⟩:=n0 rvs out.toList a1;have zl:zs.length=out.size:=by rw[rz.length];exact Array.length_toList
 have k1:∀ b o,s.heap.get? b=some o→((s.heap.push (seqObj "list" #[] 0)).update s.heap.objs.size (Obj.mapSeq (·++its.toArray))).get? b=some o:=fun b o g=>by
  rw[Heap.get?_update_ne _ _ _ _ (Nat.ne_of_lt (Heap.lt_size g))];exact hpS _ g
 have hsz:((s.heap.push (seqObj "list" #[] 0)).update s.heap.objs.size (Obj.mapSeq (·++its.toArray))).objs.size=s.heap.objs.size+1:=by
  rw[Heap.size_update,size_push']
 have I1:Inv X pins σ H {s with heap:=(s.heap.push (seqObj "list" #[] 0)).update s.heap.objs.size (Obj.mapSeq (·++its.toArray))}:=I.kept (t':=s.toks) k1;have hp0:(((s.heap.push (seqObj "list" #[] 0)).update s.heap.objs.size (Obj.mapSeq (·++its.toArray))).push (seqObj "list" its.toArray 0)).get? ((s.heap.push (seqObj "list" #[] 0)).update s.heap.objs.size (Obj.mapSeq (·++its.toArray))).objs.size=some (seqObj "list" its.toArray 0):=Heap.get?_push_size _ rfl;have ll:zs.length≤sizeLine:=by
  have:(60:Nat)≤sizeLine:=by decide
  lia
 unfold sortedAll;rw[← hsz];generalize (s.heap.push (seqObj "list" #[] 0)).update s.heap.objs.size (Obj.mapSeq (·++its.toArray))=h4 at I1 hp0 ⊢;obtain⟨e,he⟩:=sortedHeap_at (out:=out) hp0;refine⟨.ref h4.objs.size,_,I1.turnedNew (t':=s.toks) (ch:=[]) (o:=.lst zs) (fun b z=>by cases z) (fun b o z g=>?_) ⟨ll,out.toList,e,rz,by rw[Array.toArray_toList];exact he⟩,rfl,q _ zs I1.fresh (by lia)⟩;have lb:b<h4.objs.size:=Heap.lt_size g;rw[sortedHeap_old (Nat.ne_of_lt lb) (by rw[Heap.size_push];exact Nat.lt_succ_of_lt lb)];exact hpS _ g
theorem oC {p pos:Pos} {e:Expr} {es:List Expr} {t:TA} (hm:X.mg "sorted"=none) (ha:PA X (e::es) t) (hg:Gl X "sorted":=by rfl)
 (he:starEach (e::es) X.env=(false,eval e X.env)::starEach es X.env:=by rfl) (hpl:(backTo pos (starEach es X.env)).any (·.1)=false:=by rfl) :
 PE X (.Call (.Name "sorted" p) (e::es) [] pos) (tCB (tW X.K) t):=fB jH hg hm dA ha (he:=he) (hpl:=hpl)
end
end L2
namespace L2
open PySem PySem.Spec PyProof.Rows
theorem sZ:∀ (vs:List Value),(∀ v∈vs,∃ x u,v=Value.int x u)→IntsAre vs (vs.map fZ):=by
 intro vs
 induction vs with
 | nil=>intro _;exact .nil
 | cons v r ih =>
  intro h;obtain⟨x,u,rfl⟩:=h v mCS;exact .cons x u (ih fun y hy=>h y (mCM _ hy))
theorem iU {vs:List Value} {xs:List Int} (h:IntsAre vs xs):aO (xs.map V.int) vs:=by
 induction xs generalizing vs with
 | nil=>cases h;exact .nil
 | cons x r ih =>
  cases h with
  | cons _ t q=>exact .cons ⟨t,rfl⟩ (ih q)
theorem Inv.drew {X:Cx} {pins:AOs} {σ:St} {H:Hp} {s:Shared} {d:Drawn} (I:Inv X pins σ H s):Inv X pins σ H {s with drawn:=d}:=⟨I.ok,I.os,I.bare,I.base,I.loc,I.cell,I.free,I.freeC,I.pin,I.hok,I.len⟩
section
variable {prog:Program} {w:World} {A:Around} {E:VSP} {s:Shared} {a:Addr} {ss B:List Int} {n:Nat} {o:Obj} {es:Array (Int×Value)} {ep:Nat} {t:SetTable}
theorem kg (hh:A.handled=none) (S:dB prog w s.heap a ss n o es ep t) (hB:∀ x∈ss,x∈B) (hB6:B.length<64) {Q:VSP}
 (h:∀ (s1:Shared) (h':Heap) (vs:List Value) (xs:List Int) (e:Nat),(∃ h1 d tk,s1={s with heap:=h1,drawn:=d,toks:=tk}∧∀ b q,s.heap.get? b=some q→h1.get? b=some q)→(∀ b q,s1.heap.get? b=some q→h'.get? b=some q) →
   h'.get? s1.heap.objs.size=some (seqObj "list" vs.toArray e)→IntsAre vs xs→xs.Nodup→xs.Pairwise (·≤·)→(∀ x∈xs,x∈ss)→(∀ x∈ss.take n,x∈xs)→xs.length<64→Q (.ref s1.heap.objs.size) {s1 with heap:=h'}) :
 wpAny (model prog w) A (call (.builtin "sorted") [.ref a]) Q E s:=by
 refine Calls.call_function_entry kind_sorted plain_sorted entry_sorted (args_sorted1 _) (by
   unfold Builtin.«sorted»;refine wB (m:=checkCount "sorted" 1 1 _) (wP (wB (kN (A:=A.in1) hh S fun vs h1 d tk pm k1=>?_)));have hv:∀ v∈vs,∃ x u,v=Value.int x u∧x∈ss:=fun v hv=>by
     obtain⟨e,he,rfl⟩:=List.mem_map.mp (pm.mem_iff.mp hv);exact S.st e he
   have hI:IntsAre vs (vs.map fZ):=sZ vs fun v z=>by
     obtain⟨x,u,e,_⟩:=hv v z;exact⟨x,u,e⟩
   have nd:(vs.map fZ).Nodup:=by
     rw[(pm.map fZ).nodup_iff,List.map_map];exact S.nd
   have hsub:∀ x∈vs.map fZ,x∈ss:=fun x hx=>by
     obtain⟨v,hv',rfl⟩:=List.mem_map.mp hx;obtain⟨x,u,rfl,hx'⟩:=hv v hv';exact hx'
   have hl:vs.length<64:=by
     have:=lu nd fun x hx=>hB x (hsub x hx);rw[lMp] at this;omega
   refine wB (wpAny_newList ?_ (Nat.le_trans (Nat.le_of_lt hl) (by decide)));have hp:(h1.push (seqObj "list" vs.toArray 0)).get? h1.objs.size=some (seqObj "list" vs.toArray 0):=Heap.get?_push_size _ rfl;refine wB (wpAny_holding (wpAny_call_entry slot_list_sort ⟨_,hp,rfl⟩ entry_list_sort (list_sort_tree hp hI hl fun out xs b1 b2 b3=>⟨_,rfl,?_⟩) (args_list_sort _)));obtain⟨e,he⟩:=sortedHeap_at (out:=out) hp;refine wP ⟨_,rfl,?_⟩;refine h {s with heap:=h1,drawn:=d,toks:=tk} _ out.toList xs e ⟨h1,d,tk,rfl,k1⟩ (fun b q z=>?_) (by rw[Array.toArray_toList];exact he) b1 (b2.nodup_iff.mpr nd) b3 (fun x hx=>hsub x (b2.mem_iff.mp hx)) (fun x hx=>?_) (by rw[b2.length_eq,lMp];exact hl)
   · have lb:b<h1.objs.size:=Heap.lt_size z;rw[sortedHeap_old (Nat.ne_of_lt lb) (by rw[Heap.size_push];exact Nat.lt_succ_of_lt lb)];exact hpS _ z
   · obtain⟨e,he,rfl⟩:=S.al x hx;exact b2.mem_iff.mpr (List.mem_map.mpr ⟨e.2,pm.mem_iff.mpr (List.mem_map.mpr ⟨e,he,rfl⟩),rfl⟩))
end
theorem oj:bootBuiltins "set"=some (.type "set"):=by decide +kernel
inductive ub (K:Fg) (xs:List V) (H:Hp) (Q:VK):Prop
  | mk (p:Addr) (ss B:List Int) (h1:xs=[.ref p]) (h2:SqL K H p (ss.map V.int)) (h4:∀ x∈ss,x∈B) (h5:B.length<64) (q:∀ (l:Addr) (ys:List Int),H l=none→ys.Nodup→ys.Pairwise (·≤·)→(∀ x,x∈ys↔x∈ss)→Q (.ref l) (upd H l (.lst (ys.map V.int)))):ub K xs H Q
def yB (K:Fg):List V→Hp→VK→Prop:=fun xs H Q=>ub K xs H Q
theorem wL {X:Cx} {p1 p2 pos1 pos2:Pos} {e:Expr} {te:TE} (hm:X.mg "sorted"=none) (hm2:X.mg "set"=none) (he:PE X e te) (hc:X.calm=true:=by rfl) (hg:Gl X "sorted":=by rfl) (hg2:Gl X "set":=by rfl)
 (s1:starEach [.Call (.Name "set" p2) [e] [] pos2] X.env=(false,eval (.Call (.Name "set" p2) [e] [] pos2) X.env)::starEach [] X.env:=by rfl) (s2:starEach [e] X.env=(false,eval e X.env)::starEach [] X.env:=by rfl)
 (s3:(backTo pos1 (starEach [] X.env)).any (·.1)=false:=by rfl) (s4:(backTo pos2 (starEach [] X.env)).any (·.1)=false:=by rfl) (s5:backTo pos1 (starEach [] X.env)=[]:=by rfl) (s6:backTo pos2 (starEach [] X.env)=[]:=by rfl) :
 PE X (.Call (.Name "sorted" p1) [.Call (.Name "set" p2) [e] [] pos2] [] pos1) (tCB (yB X.K) (cR te je)):=by
 intro pins s σ H Q I h;have hh:X.A.handled=none:=I.ok.hd hc;refine wpAny_Call_Name_kw (dW I hg hm dA (PyProof.Rows.callWith_builtin1 ?_ s1 s3));rw[s1];show wpAny _ _ (spliced ((false,eval (.Call (.Name "set" p2) [e] [] pos2) X.env)::backTo pos1 (starEach [] X.env))) _ _ s;rw[s5];refine Calls.spliced_cons (wpAny_Call_Name_kw (dW I hg2 hm2 oj (PyProof.Rows.callWith_type1 ?_ s2 s4)));rw[s2];show wpAny _ _ (spliced ((false,eval e X.env)::backTo pos2 (starEach [] X.env))) _ _ s;rw[s6];refine Calls.spliced_cons (thn (he pins s σ H _ I h) fun u s1 z=>Calls.spliced_nil ?_);obtain⟨x,H1,I1,rx,p,ss,B,ex,hq,hB,hB6,q⟩:=z;cases ex;cases rx;obtain⟨its,rv,pl,hz⟩:=I1.list hq;have hlen:=rv.length;rw[lMp] at hlen;refine oY (ss:=ss) hh pl.isList (fun i v hv=>?_) hB hB6 fun h2 tk o es ep t S k2=>Calls.spliced_nil ?_
 · have hv':its[i]?=some v:=by simpa using hv
   have hi:i<ss.length:=by have:=(gES.mp hv').1;omega
   obtain⟨u,hu,ru⟩:=rv.get (i:=i) (x:=V.int ss[i]) (by rw[gEM,gEE hi];rfl);rw[hv'] at hu;cases hu;obtain⟨t,rfl⟩:=ru;exact⟨ss[i],t,rfl,gEE hi⟩
 · refine kg (s:={s1 with heap:=h2,toks:=tk}) hh S hB hB6 fun s3 h3 vs xs en hs3 k3 hat hS nd hso hin hal hxl=>?_;obtain⟨h4,d,tk4,rfl,k4⟩:=hs3;have I3:Inv X pins σ H1 {s1 with heap:=h4,drawn:=d,toks:=tk4}:=(I1.kept (t':=tk4) fun b o z=>k4 _ _ (k2 _ _ z)).drew;have ll:(xs.map V.int).length≤sizeLine:=by
    rw[lMp];have:(64:Nat)≤sizeLine:=by decide
    omega
   refine⟨.ref h4.objs.size,_,I3.turnedNew (t':=tk4) (ch:=[]) (o:=.lst (xs.map V.int)) (fun b z=>by cases z) (fun b z _ y=>k3 b z y) ⟨ll,vs,en,iU hS,hat⟩,rfl,q _ xs ?_ nd hso (fun x=>⟨hin x,fun hx=>hal x ?_⟩)⟩
   · exact I3.fresh
   · rw[List.size_toArray,← hlen,List.take_length];exact hx
inductive ua (K:Fg) (xs:List V) (H:Hp) (Q:VK):Prop
  | mk (p:Addr) (ns:List Int) (h1:xs=[.ref p]) (h2:SqL K H p (ns.map V.int)) (h3:ns.length<64) (q:∀ (l:Addr) (ys:List Int),H l=none→ys.Perm ns→ys.Pairwise (·≤·)→Q (.ref l) (upd H l (.lst (ys.map V.int)))):ua K xs H Q
def tX (K:Fg):List V→Hp→VK→Prop:=fun xs H Q=>ua K xs H Q
theorem jI {X:Cx}:eL X (.builtin "sorted") (tX X.K):=by
 intro pins s σ H xs us Q I rv h;obtain⟨p,ns,rfl,hq,hl,q⟩:=h;obtain⟨u,rfl,ru⟩:=iK rv;cases ru;obtain⟨its,rvs,pl,hz⟩:=I.list hq;have hlen:=rvs.length;rw[lMp] at hlen;refine sorted_ints pl.isList (lE rvs) (by omega) fun out ys a1 a2 a3=>?_;have k1:∀ b o,s.heap.get? b=some o→((s.heap.push (seqObj "list" #[] 0)).update s.heap.objs.size (Obj.mapSeq (·++its.toArray))).get? b=some o:=fun b o g=>by
  rw[Heap.get?_update_ne _ _ _ _ (Nat.ne_of_lt (Heap.lt_size g))];exact hpS _ g
 have hsz:((s.heap.push (seqObj "list" #[] 0)).update s.heap.objs.size (Obj.mapSeq (·++its.toArray))).objs.size=s.heap.objs.size+1:=by
  rw[Heap.size_update,size_push']
 have I1:Inv X pins σ H {s with heap:=(s.heap.push (seqObj "list" #[] 0)).update s.heap.objs.size (Obj.mapSeq (·++its.toArray))}:=I.kept (t':=s.toks) k1;have hp0:(((s.heap.push (seqObj "list" #[] 0)).update s.heap.objs.size (Obj.mapSeq (·++its.toArray))).push (seqObj "list" its.toArray 0)).get? ((s.heap.push (seqObj "list" #[] 0)).update s.heap.objs.size (Obj.mapSeq (·++its.toArray))).objs.size=some (seqObj "list" its.toArray 0):=Heap.get?_push_size _ rfl;have ll:(ys.map V.int).length≤sizeLine:=by
  rw[lMp,a2.length_eq];have:(64:Nat)≤sizeLine:=by decide
  omega
 unfold sortedAll;rw[← hsz];generalize (s.heap.push (seqObj "list" #[] 0)).update s.heap.objs.size (Obj.mapSeq (·++its.toArray))=h4 at I1 hp0 ⊢;obtain⟨e,he⟩:=sortedHeap_at (out:=out) hp0;refine⟨.ref h4.objs.size,_,I1.turnedNew (t':=s.toks) (ch:=[]) (o:=.lst (ys.map V.int)) (fun b z=>by cases z) (fun b o z g=>?_) ⟨ll,out.toList,e,iU a1,by rw[Array.toArray_toList];exact he⟩,rfl,q _ ys I1.fresh a2 a3⟩;have lb:b<h4.objs.size:=Heap.lt_size g;rw[sortedHeap_old (Nat.ne_of_lt lb) (by rw[Heap.size_push];exact Nat.lt_succ_of_lt lb)];exact hpS _ g
theorem oD {X:Cx} {p pos:Pos} {e:Expr} {es:List Expr} {t:TA} (hm:X.mg "sorted"=none) (ha:PA X (e::es) t) (hg:Gl X "sorted":=by rfl)
 (he:starEach (e::es) X.env=(false,eval e X.env)::starEach es X.env:=by rfl) (hpl:(backTo pos (starEach es X.env)).any (·.1)=false:=by rfl) :
 PE X (.Call (.Name "sorted" p) (e::es) [] pos) (tCB (tX X.K) t):=fB jI hg hm dA ha (he:=he) (hpl:=hpl)
variable {X:Cx} {o e:Expr} {to:TE} {t:TA} {apos cpos:Pos}
theorem wI (ho:PE X o to) (ha:PA X [e] t) (hbase:attributeBase o "extend" X.env (eval o X.env)=eval o X.env:=by rfl) (hline:(apos.endLine==cpos.line)=true:=by rfl)
 (hfew:((backTo cpos (starEach [e] X.env)).all (fun x=>!x.1)&&(backToKw cpos (keywordEach [] X.env)).all (fun x=>x.1.isSome)&&decide ([e].length+([]:List Keyword).length+(if ([]:List Keyword).isEmpty then 0 else 1)<30))=true:=by rfl)
 (hs:starEach [e] X.env=(false,eval e X.env)::starEach [] X.env:=by rfl) (hplain:(backTo cpos (starEach [] X.env)).any (·.1)=false:=by rfl) :
 PE X (.Call (.Attribute o "extend" apos) [e] [] cpos) (tBM X.K "list" mv to t):=qf PySem.F.plainAttrs_list PySem.F.slot_list_extend PySem.F.type_list_extend nN ho ha hbase hfew hline hs hplain
end L2
namespace P10
open PySem L2
theorem gb {is js:List Int} (hl:is.length=js.length) (kvs:List (Key×V)) (i:Int):bi (bD kvs is js) (.inl i)=none↔bi kvs (.inl i)=none∧i∉is:=by
 induction is generalizing kvs js with
 | nil=>cases js with
  | nil=>exact⟨fun h=>⟨h,nMN⟩,fun h=>h.1⟩
  | cons=>cases hl
 | cons a is ih =>
  cases js with
  | nil=>cases hl
  | cons b js =>
   show bi (bD (bW kvs (.inl a) (.int b)) is js) (.inl i)=none↔_;rw[ih (Nat.succ.inj hl),dL];by_cases e:i=a
   · subst e;rw[if_pos rfl];exact⟨fun h=>(nomatch h.1),fun h=>absurd mCS h.2⟩
   · rw[if_neg fun c=>e (Sum.inl.inj c)];exact⟨fun ⟨h1,h2⟩=>⟨h1,fun c=>(List.mem_cons.mp c).elim e h2⟩,fun ⟨h1,h2⟩=>⟨h1,fun c=>h2 (mCM _ c)⟩⟩
theorem mD {d:PyData} {h:Str} {sl:List Str} {ps:PDs} (n:Nd d h sl ps) {x:PyData} (e:gZ d=some x):∃ i,x=.int i:=by
 obtain⟨rfl,hm,hshp,_⟩:=n;have e':dQ h ps=some x:=e;unfold dQ at e';split at e'
 · rename_i b1
   rcases vR hm b1 with rfl | rfl
   · obtain⟨p0,rfl,s0⟩:=K11.fE hshp;cases e';exact s0.2.1 (by decide +kernel)
   · obtain⟨p0,p1,rfl,s0,_⟩:=K11.cM hshp;cases e';exact s0.2.1 (by decide +kernel)
 · cases e'
theorem lB {α β γ:Type} {f:Nat→α→β} {g:β→γ} {h:α→γ} (e:∀ k x,g (f k x)=h x) (l:List α):(l.mapIdx f).map g=l.map h:=by
 apply List.ext_getElem?;intro i;rw[gEM,List.getElem?_mapIdx,gEM];cases l[i]? with
 | none=>rfl
 | some x=>exact congrArg some (e i x)
abbrev GE:=Nat×PyData×Addr×List (Key×V)
def gn (l:List GE):Nat:=(l.map fun p=>(b4 p.1 p.2.1).length).sum
def dE (m:Nat) (a a':Addr) (kvs kvs':List (Key×V)) (ks:PDs):List GE:=ks.mapIdx fun k x=>(m,x,if k+1=ks.length then a' else a,if k+1=ks.length then kvs' else kvs)
theorem fb (l l':List GE):gn (l++l')=gn l+gn l':=by unfold gn;rw[List.map_append,List.sum_append]
theorem fP {m:Nat} {a a':Addr} {kvs kvs':List (Key×V)} {e:PyData}:gn (dE m a a' kvs kvs' (ai e))+1=(b4 (m+1) e).length:=by
 unfold gn dE;rw[lB (g:=fun p:GE=>(b4 p.1 p.2.1).length) (h:=fun x=>(b4 m x).length) (fun _ _=>rfl)];show _=(((ai e).map (b4 m)).flatten).length+1;rw[List.length_flatten,List.map_map];rfl
theorem pc {m:Nat} {a a':Addr} {kvs kvs':List (Key×V)} {ks:PDs}:(dE m a a' kvs kvs' ks).map (fun p=>(p.2.1,p.2.2.1))=scp a a' ks:=by
 unfold dE scp;apply List.ext_getElem?;intro i;rw[gEM,List.getElem?_mapIdx,List.getElem?_mapIdx];cases ks[i]? <;> rfl
theorem oH {l:List GE} (h:∀ p∈l,WFd p.1 p.2.1):l.length≤gn l:=by
 induction l with
 | nil=>exact Nat.zero_le _
 | cons p l ih =>
  have h1:=ih fun q hq=>h q (mCM _ hq);have h2:=my (h p mCS);show l.length+1≤(b4 p.1 p.2.1).length+gn l;omega
theorem jB {m:Nat} {e:PyData} {a a':Addr} {kvs:List (Key×V)} {is:List Int} (hb:oo e=is.map .int) (i:Int):FrD (m+1) e i∧bi kvs (.inl i)=none↔(gZ e=some (.int i)∧bi kvs (.inl i)=none)∨∃ p∈dE m a a' kvs (bD kvs is is) (ai e),FrD p.1 p.2.1 i∧bi p.2.2.2 (.inl i)=none:=by
 have hmem:PyData.int i∉oo e↔i∉is:=by
  rw[hb];refine not_congr ⟨fun h=>?_,fun h=>List.mem_map.mpr ⟨i,h,rfl⟩⟩;obtain⟨j,hj,e⟩:=List.mem_map.mp h;cases e;exact hj
 constructor
 · rintro⟨h | ⟨k,x,h1,h2,h3⟩,hv⟩
   · exact .inl ⟨h,hv⟩
   · refine .inr ⟨_,mGE (show (dE m a a' kvs (bD kvs is is) (ai e))[k]?=some _ by unfold dE;rw[List.getElem?_mapIdx,h1];rfl),h2,?_⟩;by_cases hk:k+1=(ai e).length
     · show bi (if k+1=(ai e).length then _ else _) _=none;rw[if_pos hk,gb rfl];exact⟨hv,hmem.mp (h3 hk)⟩
     · show bi (if k+1=(ai e).length then _ else _) _=none;rw[if_neg hk];exact hv
 · rintro (⟨h,hv⟩ | ⟨p,hp,h2,hv⟩)
   · exact⟨.inl h,hv⟩
   · obtain⟨k,hk⟩:=List.getElem?_of_mem hp;unfold dE at hk;rw[List.getElem?_mapIdx] at hk;obtain⟨x,hx,rfl⟩:=oMS.mp hk;have hv':bi (if k+1=(ai e).length then bD kvs is is else kvs) (.inl i)=none:=hv;by_cases hk':k+1=(ai e).length
     · rw[if_pos hk',gb rfl] at hv';exact⟨.inr ⟨k,x,hx,h2,fun _=>hmem.mpr hv'.2⟩,hv'.1⟩
     · rw[if_neg hk'] at hv';exact⟨.inr ⟨k,x,hx,h2,fun c=>absurd c hk'⟩,hv'⟩
end P10
namespace K11
open PySem L2 P10
section
variable {P:Program} {w:World} {K:Fg} {mg:SOV} {base:Heap}
abbrev sFd:Stmt:=top 12
abbrev nFd:List Str:=["e","free","waiting","node","bound","meant","ids"]
inductive uH (K:Fg) (vs:List V) (H:Hp) (Q:VK):Prop
  | mk (v:V) (d:PyData) (n:Nat) (B:List Int) (g0_:vs=[v]) (g1_:TD K H v d) (g2_:WFd n d) (g3_:(b4 n d).length≤900000) (g4_:3*n≤900000) (g5_:∀ i,FrD n d i→i∈B) (g6_:B.length<64) (g7_:∀ t H' (ys:List Int),aj H H'→H' t=some (.tup (ys.map V.int))→ys.Nodup→ys.Pairwise (·≤·)→(∀ i,i∈ys↔FrD n d i)→Q (.ref t) H'):uH K vs H Q
def xL (K:Fg):Sp:=fun vs H Q _=>uH K vs H Q
theorem yo:ax nFd ["e"] (a9 sFd):=fsM
theorem zw (D:Def K mg "free_ids" sFd) (T:Blt mg) (hset:mg "set"=none) (hsor:mg "sorted"=none) (lU:Fn P w K mg base "meant_by" 1 ["e"] (xF K)) (cY:Fn P w K mg base "bound_by" 1 ["e"] (kc K)) (fO:Fn P w K mg base "scoped_children" 2 ["e","outer","inner"] (xA K)) (ir:Fn P w K mg base "with_entries" 1 ["table","ids","told"] (xq K)):Fn P w K mg base "free_ids" 3 ["e"] (xL K):=by
 refine D.fn yo (fun vs H Q E h=>?_) (fun _ _ _ _ _ _ us hl=>by obtain⟨a,rfl⟩:=eo hl;rfl) (fun f cdv A outer s' H vs Q E hr h=>?_)
 · obtain⟨v,d,n,B,rfl,_⟩:=h;rfl
 · obtain⟨v,d,n,B,rfl,td,wf,hsz,hn3,hcl,hB6,q⟩:=h;have nd:=yo.nd;have hu:=bS hr;have hz0:(1000000:Nat)<sizeLine:=by decide
   refine⟨_,(pE (pN (i:=1) nd rfl (Or.inl rfl) (ag pC))
 (pE (pN (i:=2) nd rfl (Or.inl rfl) (ag (pA (az (pA (pv 0) (pA kC pC))) pC)))
 (pE (kx PassesOwn.never (gT (pv 2) (by intro _;rfl))
 (pE (pY (rm (pv 2)) (eP rfl (bg (ao (i:=3) nd rfl (Or.inl rfl)) (bg (ao (i:=4) nd rfl (Or.inl rfl)) dl))))
 (pE (pN (i:=5) nd rfl (Or.inl rfl) (ac lU (hr.mono (by decide)) rfl (pA (pv 3) pC)))
 (pE (aN (PW.pt (b6 (pX (sJ (pv 5))) (bh (pX (nJ hu (pv 5) (pv 4)))))) (pI (ak (aV (pv 1) (pA (pv 5) pC)))) aF)
 (pE (pN (i:=6) nd rfl (Or.inl rfl) (ac cY (hr.mono (by decide)) rfl (pA (pv 3) pC)))
 (pI (ak (wI (pv 2) (pA (ac fO (hr.mono (by decide)) rfl (pA (pv 3) (pA (pv 4) (pA (ac ir (hr.mono (by decide)) rfl (pA (pv 4) (pA (pv 6) (pA (pv 6) pC)))) pC)))) pC)))))))))
 (pI (au (bA T.tuple (pA (wL hsor hset (pv 1)) pC))))))),?_⟩
   dsimp only[bC,bH,bG];refine a7 fun rG iu=>?_;refine⟨f9,fun F hF=>?_⟩;refine iu _ _ (a7 fun nM ig=>?_);have k1:=smu (o:=HO.lst []) hF;have hF1:(upd H F (.lst [])) F=some (.lst []):=pG;generalize upd H F (.lst [])=H1 at k1 hF1 ⊢;refine⟨_,rfl,fun D0 hD0=>?_⟩;have k2:=smu (o:=HO.dK []) hD0;have hD2:(upd H1 D0 (.dK [])) D0=some (.dK []):=pG;generalize upd H1 D0 (.dK [])=H2 at k2 hD2 ⊢;refine⟨gl,fun t0 ht0=>?_⟩;have k3:=smu (o:=HO.tup [v,.ref D0]) ht0;have ht3:(upd H2 t0 (.tup [v,.ref D0])) t0=some (.tup [v,.ref D0]):=pG;generalize upd H2 t0 (.tup [v,.ref D0])=H3 at k3 ht3 ⊢;refine⟨eC,fun W hW=>?_⟩;have k4:=smu (o:=HO.lst [.ref t0]) hW;have hW4:(upd H3 W (.lst [.ref t0])) W=some (.lst [.ref t0]):=pG;have k23:=k2.trans k3;have hF4:=k4 _ _ (k23 _ _ hF1);have FW:F≠W:=fun e=>by rw[← e,k23 _ _ hF1] at hW;cases hW
   have nH:∀ {b:Addr},H3 b=none→H b=none:=fun {b} z=>by
    cases e:H b with
    | none=>rfl
    | some o=>rw[k23 _ _ (k1 _ _ e)] at z;cases z
   have hWH:=nH hW;have kk:=(k1.trans k23).trans k4;have hD4:=k4 _ _ (k3 _ _ hD2);have ht4:=k4 _ _ ht3;refine ig _ _ (a7 fun sS kK=>?_);generalize upd H3 W (.lst [.ref t0])=H4 at k4 hW4 hF4 kk hD4 ht4 ⊢;refine⟨fun k σ Hi=>aj H Hi∧∃ (fs:List Int) (ws:List V) (l:List GE) (x3 x4 x5 x6:Option V),σ=[some v,some (.ref F),some (.ref W),x3,x4,x5,x6]∧Hi F=some (.lst (fs.map V.int))∧Hi W=some (.lst ws)∧Prs K Hi ws (l.map fun p=>(p.2.1,p.2.2.1))∧(∀ p∈l,WFd p.1 p.2.1∧Hi p.2.2.1=some (.dK p.2.2.2)∧p.2.2.2.length+3*p.1≤3*n)∧(∀ i,FrD n d i↔i∈fs∨∃ p∈l,FrD p.1 p.2.1 i∧bi p.2.2.2 (.inl i)=none)∧k=gn l∧fs.length+k≤(b4 n d).length,⟨_,kk,[],[.ref t0],[(n,d,D0,[])],_,_,_,_,rfl,hF4,hW4,.cons ht4 (td.same kk) .nil,fun p hp=>?_,fun i=>?_,rfl,?_⟩,?_⟩
   · rw[mSg.mp hp];exact⟨wf,hD4,by show 0+3*n≤3*n;omega⟩
   · constructor
     · exact fun z=>.inr ⟨_,mSg.mpr rfl,z,rfl⟩
     · rintro (z | ⟨p,hp,z,_⟩)
       · cases z
       · rw[mSg.mp hp] at z;exact z
   · show 0+(((b4 n d).length+0))≤_;omega
   rintro k σ Hi ⟨sm,fs,ws,l,x3,x4,x5,x6,rfl,hFi,hWi,hprs,hl,hfr,rfl,hcnt⟩;refine⟨_,rfl,_,.inl ⟨ws,SqL.of hWi,rfl⟩,?_⟩
   rcases List.eq_nil_or_concat l with rfl | ⟨l',p,rfl⟩
   · cases hprs;refine pK (by decide) ?_;refine kK _ _ ?_;have hall:∀ i,i∈fs↔FrD n d i:=fun i=>by
      rw[hfr i];exact⟨.inl,fun z=>z.elim id fun ⟨p,hp,_⟩=>absurd hp nMN⟩
     refine⟨_,rfl,F,fs,B,rfl,SqL.of hFi,fun x hx=>hcl x ((hall x).mp hx),hB6,fun L ys hL hnd hpw hmem=>?_⟩;have k5:=smu (o:=HO.lst (ys.map V.int)) hL;refine⟨L,_,rfl,.inl ⟨SqL.of pG,fun t ht=>?_⟩⟩;have k6:=smu (o:=HO.tup (ys.map V.int)) ht;exact q t _ ys ((sm.trans k5).trans k6) pG hnd hpw fun i=>by rw[hmem,hall]
   · obtain⟨m,e,a,kvs⟩:=p;rw[List.concat_eq_append] at hprs hl hfr hcnt ⊢;rw[List.map_append] at hprs;obtain⟨ws',t,x,rfl,hprs',ht,tx⟩:=Prs.last hprs;obtain⟨hwe,hae,hke⟩:=hl (m,e,a,kvs) (List.mem_append_right _ (mSg.mpr rfl));obtain⟨m,rfl⟩:∃ m',m=m'+1:=by
      cases m with
      | zero=>exact hwe.elim
      | succ m=>exact⟨m,rfl⟩
     have hwe0:=hwe;obtain⟨he,sl,ps,nde,hkid⟩:=hwe;replace nde:Nd e he sl ps:=nde;replace hke:kvs.length+3*(m+1)≤3*n:=hke;obtain⟨is,eis,hisl,_⟩:=cU nde;have ebo:oo e=is.map .int:=by rw[nde.eq];exact eis
     rw[fb] at hcnt;have hw1:gn [(m+1,e,a,kvs)]=(b4 (m+1) e).length:=rfl;have hwk:gn (dE m a a kvs kvs (ai e))+1=(b4 (m+1) e).length:=fP;have hlw:=oH fun p hp=>(hl p (List.mem_append_left _ hp)).1;have hpl:=hprs'.length;rw[lMp] at hpl;refine pL (by cases ws' <;> rfl) ?_;refine⟨_,fun σ' H' z=>z,?_⟩;refine a7 fun BD wm=>?_;refine⟨_,rfl,.inl ⟨rfl,_,SqL.of hWi⟩,W,_,.ref t,rfl,rfl,hWi,by simp,?_⟩;rw[List.dropLast_concat];have sm5:aj H (upd Hi W (.lst ws')):=aD sm hWH;have hW5:(upd Hi W (.lst ws')) W=some (.lst ws'):=pG;have o5:∀ b o,(∀ ys,o≠.lst ys)→Hi b=some o→(upd Hi W (.lst ws')) b=some o:=fun b o ho z=>by rw[aa fun e=>by rw[e,hWi] at z;exact ho _ (Option.some.inj z).symm];exact z
     have hF5:(upd Hi W (.lst ws')) F=some (.lst (fs.map V.int)):=by rw[aa FW];exact hFi
     have hp5:=hprs'.put (o:=.lst ws') hWi;have tx5:=tx.tk (aZ (o:=.lst ws') (.inr ⟨_,hWi⟩));have ht5:=o5 t (.tup [x,.ref a]) (fun _ z=>nomatch z) ht;have ha5:=o5 a (.dK kvs) (fun _ z=>nomatch z) hae;have hl5:∀ p∈l',WFd p.1 p.2.1∧(upd Hi W (.lst ws')) p.2.2.1=some (.dK p.2.2.2)∧p.2.2.2.length+3*p.1≤3*n:=fun p hp=>by
      obtain⟨z1,z2,z3⟩:=hl p (List.mem_append_left _ hp);exact⟨z1,o5 _ _ (fun _ z=>nomatch z) z2,z3⟩
     generalize upd Hi W (.lst ws')=H5 at sm5 hW5 hF5 hp5 tx5 ht5 ha5 hl5 ⊢;refine⟨t,_,rfl,SqT.of ht5,rfl,_,_,rfl,_,_,rfl,rfl,?_⟩;refine wm _ _ (a7 fun BB wg=>?_);refine⟨_,rfl,x,e,he,sl,ps,rfl,tx5,nde,fun v6 H6 k6 t6=>?_⟩;refine wg _ _ (a7 fun AU zP=>?_);have emo:gZ e=dQ he ps:=by rw[nde.eq];rfl
     rw[← emo] at t6;have cK:∀ (H7:Hp) (fs':List Int),aj H H7→H7 F=some (.lst (fs'.map V.int))→H7 W=some (.lst ws')→Prs K H7 ws' (l'.map fun p=>(p.2.1,p.2.2.1))→TD K H7 x e→H7 a=some (.dK kvs)→(∀ p∈l',WFd p.1 p.2.1∧H7 p.2.2.1=some (.dK p.2.2.2)∧p.2.2.2.length+3*p.1≤3*n)→(∀ i,i∈fs'↔i∈fs∨(gZ e=some (.int i)∧bi kvs (.inl i)=none))→fs'.length≤fs.length+1→AU [some v,some (.ref F),some (.ref W),some x,some (.ref a),some v6,x6] H7:=by
      intro H7 fs' sm7 hF7 hW7 hp7 tx7 ha7 hl7 hfs' hfl;refine zP _ _ (a7 fun Dm BP=>?_);refine⟨_,rfl,x,e,he,sl,ps,rfl,tx7,nde,fun v8 H8 k8 t8=>?_⟩;refine BP _ _ ?_;rw[eis] at t8;have hW8:=k8 _ _ hW7;have ha8:=k8 _ _ ha7;refine⟨_,rfl,.inl ⟨rfl,_,SqL.of hW8⟩,_,rfl,_,rfl,_,rfl,_,rfl,_,rfl,a,v8,v8,is,is,kvs,rfl,ha8,t8,t8,rfl,by omega,fun a' H9 k9 ha9=>?_⟩;refine⟨x,a,a',e,he,sl,ps,rfl,(tx7.same k8).same k9,nde,fun L zs H10 k10 hL hL10 hz10=>?_⟩;have K10':=k8.trans (k9.trans k10);have hW10:=K10' _ _ hW7;have hF10:=K10' _ _ hF7;have hzl:=hz10.length;have hsl:(scp a a' (ai e)).length=(ai e).length:=by unfold scp;rw[List.length_mapIdx]
      have hfew:=nde.few;rw[← nde.kids] at hfew;have g10:∀ b kv,H7 b=some (.dK kv)→(upd H10 W (.lst (ws'++zs))) b=some (.dK kv):=fun b kv z=>by
       rw[aa fun e=>by rw[e,hW7] at z;cases z];exact K10' _ _ z
      refine⟨W,L,ws',zs,rfl,rfl,hW10,hL10,by omega,gn (l'++dE m a a' kvs (bD kvs is is) (ai e)),?_,aD (sm7.trans K10') hWH,fs',ws'++zs,l'++dE m a a' kvs (bD kvs is is) (ai e),_,_,_,_,rfl,by rw[aa FW];exact hF10,pG,?_,fun p hp=>?_,fun i=>?_,rfl,?_⟩
      · rw[fb,fb,hw1];have:=fP (m:=m) (a:=a) (a':=a') (kvs:=kvs) (kvs':=bD kvs is is) (e:=e);omega
      · rw[List.map_append,pc];exact ((hp7.same K10').app hz10).put hW10
      · rcases mAp.mp hp with hp | hp
        · obtain⟨z1,z2,z3⟩:=hl7 p hp;exact⟨z1,g10 _ _ z2,z3⟩
        · obtain⟨k,hk⟩:=List.getElem?_of_mem hp;unfold dE at hk;rw[List.getElem?_mapIdx] at hk;obtain⟨y,hy,rfl⟩:=oMS.mp hk;refine⟨hwe0.kid (mGE hy),?_,?_⟩
          · dsimp only;by_cases hk':k+1=(ai e).length
            · rw[if_pos hk',if_pos hk',aa fun c=>by rw[c] at ha9;rw[(k9.trans (aj.refl _)) _ _ hW8] at ha9;cases ha9];exact k10 _ _ ha9
            · rw[if_neg hk',if_neg hk'];exact g10 _ _ ha7
          · have hpa:=gR kvs is is;dsimp only;split <;> omega
      · rw[hfr i,hfs' i];constructor
        · rintro (z | ⟨p,hp,z1,z2⟩)
          · exact .inl (.inl z)
          · rcases mAp.mp hp with hp | hp
            · exact .inr ⟨p,List.mem_append_left _ hp,z1,z2⟩
            · rw[mSg.mp hp] at z1 z2
              rcases (jB (a:=a) (a':=a') ebo i).mp ⟨z1,z2⟩ with z | ⟨p',hp',z⟩
              · exact .inl (.inr z)
              · exact .inr ⟨p',List.mem_append_right _ hp',z⟩
        · rintro ((z | z) | ⟨p,hp,z⟩)
          · exact .inl z
          · obtain⟨z1,z2⟩:=(jB (m:=m) (a:=a) (a':=a') ebo i).mpr (.inl z);exact .inr ⟨_,List.mem_append_right _ (mSg.mpr rfl),z1,z2⟩
          · rcases mAp.mp hp with hp | hp
            · exact .inr ⟨p,List.mem_append_left _ hp,z⟩
            · obtain⟨z1,z2⟩:=(jB (m:=m) (a:=a) (a':=a') ebo i).mpr (.inr ⟨p,hp,z⟩);exact .inr ⟨_,List.mem_append_right _ (mSg.mpr rfl),z1,z2⟩
      · rw[fb];have:=fP (m:=m) (a:=a) (a':=a') (kvs:=kvs) (kvs':=bD kvs is is) (e:=e);omega
     have hl6:∀ p∈l',WFd p.1 p.2.1∧H6 p.2.2.1=some (.dK p.2.2.2)∧p.2.2.2.length+3*p.1≤3*n:=fun p hp=>by
      obtain⟨z1,z2,z3⟩:=hl5 p hp;exact⟨z1,k6 _ _ z2,z3⟩
     have sm6:=sm5.trans k6;have rest0:=cK H6 fs sm6 (k6 _ _ hF5) (k6 _ _ hW5) (hp5.same k6) (tx5.same k6) (k6 _ _ ha5) hl6;cases em:gZ e with
     | none =>
      rw[em] at t6 rest0;obtain rfl:v6=.non:=t6;exact⟨_,rfl,_,rfl,aU (aU (rest0 (fun i=>⟨.inl,fun z=>z.elim id fun z=>(nomatch z.1)⟩) (Nat.le_succ _)))⟩
     | some dd =>
      obtain⟨i,rfl⟩:=mD nde em;rw[em] at t6 rest0 cK;obtain rfl:=TD.int_of (show TD K H6 v6 (.int i) from t6);refine⟨_,rfl,_,rfl,bj ⟨_,rfl,_,rfl,a,_,rfl,bO.k (k:=.inl i) (k6 _ _ ha5),_,rfl,?_⟩⟩;cases ev:bi kvs (.inl i) with
      | some y =>
       refine aU (rest0 (fun j=>⟨.inl,fun z=>z.elim id fun z=>?_⟩) (Nat.le_succ _));obtain⟨z1,z2⟩:=z;cases z1;rw[ev] at z2;cases z2
      | none =>
       have hF6:=k6 _ _ hF5;have hW6:=k6 _ _ hW5;refine bj ⟨_,rfl,.inl ⟨rfl,_,SqL.of hF6⟩,_,rfl,F,_,.int i,rfl,rfl,hF6,by rw[lMp];omega,?_⟩;have ek:fs.map V.int++[V.int i]=(fs++[i]).map V.int:=by rw[List.map_append];rfl
       rw[ek];have g7:∀ b kv,H6 b=some (.dK kv)→(upd H6 F (.lst ((fs++[i]).map V.int))) b=some (.dK kv):=fun b kv z=>by
        rw[aa fun e=>by rw[e,hF6] at z;cases z];exact z
       refine cK _ (fs++[i]) (aD sm6 hF) pG (by rw[aa (Ne.symm FW)];exact hW6) ((hp5.same k6).put hF6) ((tx5.same k6).tk (aZ (.inr ⟨_,hF6⟩))) (g7 _ _ (k6 _ _ ha5)) (fun p hp=>?_) (fun j=>?_) (by rw[lAp];exact Nat.le_refl _)
       · obtain⟨z1,z2,z3⟩:=hl6 p hp;exact⟨z1,g7 _ _ z2,z3⟩
       · rw[mAp,mSg];refine or_congr Iff.rfl ⟨fun z=>?_,fun z=>?_⟩
         · rw[z];exact⟨rfl,ev⟩
         · obtain⟨z1,_⟩:=z;cases z1;rfl
end
end K11
namespace P10
open PySem L2
theorem jW {K:Fg} {H:Hp} {xs:List V} {is:List Int} (h:TDs K H xs (is.map .int)):xs=is.map V.int:=by
 induction is generalizing xs with
 | nil=>cases h;rfl
 | cons i r ih =>
  cases h with
  | cons a b=>rw[ih b,a.int_of];rfl
theorem kJ (i:Int) (is:List Int):inV (.int i) (is.map V.int)=decide (i∈is):=by
 induction is with
 | nil=>rfl
 | cons a r ih =>
  show (eqV (.int a) (.int i)||inV (.int i) (r.map V.int))=_;rw[ih];show ((a==i)||decide (i∈r))=_;by_cases e:a=i
  · subst e;simp
  · rw[beq_false_of_ne e];simp[Ne.symm e]
theorem iW (is:List Int):(is.map V.int).all eF=true:=by
 induction is with
 | nil=>rfl
 | cons a r ih=>exact ih
theorem o6 {α:Type} (p:α→Bool) {l:List α} {k:Nat} {x:α} (h:l[k]?=some x):(l.take (k+1)).filter p=(l.take k).filter p++if p x=true then [x] else []:=by
 rw[tAO,h,List.filter_append];congr 1;show List.filter p [x]=_;rw[List.filter_cons];rfl
end P10
namespace K11
open PySem L2 P10
section
variable {P:Program} {w:World} {K:Fg} {mg:SOV} {base:Heap}
abbrev sLf:Stmt:=top 40
abbrev nLf:List Str:=["_law_e","_law_around","_law_found","_law_parts_here","_law_k","_law_inner_here"]
inductive uC (K:Fg) (n:Nat) (vs:List V) (H:Hp) (Q:VK):Prop
  | mk (v va:V) (d:PyData) (as:List Int) (g0_:vs=[v,va]) (g1_:TD K H v d) (g2_:WFd n d) (g3_:TD K H va (.tuple (as.map .int))) (g4_:as.length+3*n≤90000) (g5_:(b4 n d).length≤900000) (g6_:∀ L H' (fs:List Int),aj H H'→H' L=some (.lst (fs.map V.int))→fs.Nodup→(∀ i,i∈fs↔FrD n d i∧i∉as)→fs.length≤(b4 n d).length→Q (.ref L) H'):uC K n vs H Q
def oU (K:Fg) (n:Nat):Sp:=fun vs H Q _=>uC K n vs H Q
theorem vn:ax nLf ["_law_e","_law_around"] (a9 sLf):=fsM
theorem Bo:(["_law_one","_law_found"]:List Str).Nodup:=by decide +kernel
theorem zm {n:Nat} (D:Def K mg "_law_free" sLf) (T:Blt mg) (cG:Fn P w K mg base "_law_parts" 1 ["_law_e"] (rY K)) (bK:Fn P w K mg base "_law_bound_ids" 1 ["_law_e"] (kc K)) (eY:Fn P w K mg base "_law_free" (n+2) ["_law_e","_law_around"] (oU K n)):Fn P w K mg base "_law_free" (n+3) ["_law_e","_law_around"] (oU K (n+1)):=by
 refine D.fn vn (fun vs H Q E h=>?_) (fun _ _ _ _ _ _ us hl=>by obtain⟨a,b,rfl⟩:=fW hl;rfl) (fun f cdv A outer s' H vs Q E hr h=>?_)
 · obtain⟨v,va,d,as,rfl,_⟩:=h;rfl
 · obtain⟨v,va,d,as,rfl,td,wf,tva,has,hsz,q⟩:=h;have nd:=vn.nd;have hz0:(1000000:Nat)<sizeLine:=by decide
   have r1:cV 1 (A.deeper (PyProof.Rows.envOfC "_law_free" (a9 sLf) s'.heap.objs.size f cdv)):=hr.mono (by omega);refine⟨_,(pE (pN (i:=2) nd rfl (Or.inr rfl) (ag pC))
 (pE (aN (PW.pt (b6 (pO cQ (am aB (pv 0) pH (fun _ _=>rfl)) (az (pA pD (pA pD pC))) (by with_unfolding_all rfl)) (bh (pO cN (am aB (pv 0) pH (fun _ _=>rfl)) (pv 1) (by with_unfolding_all rfl))))) (pI (ak (aV (pv 2) (pA (am aB (pv 0) pH (fun _ _=>rfl)) pC)))) aF)
 (pE (pN (i:=3) nd rfl (Or.inl rfl) (ac cG r1 rfl (pA (pv 0) pC)))
 (pE (bx PassesOwn.never rfl (bL rfl T.range (pA (be T.len (pA (pv 3) pC)) pC)) (ao (i:=4) nd rfl (Or.inl rfl))
 (pE (pN (i:=5) nd rfl (Or.inl rfl) (pv 1))
 (pE (aN (pO aT (aC bY (pv 4) pH) (be T.len (pA (pv 3) pC)) (pP _)) (pI (pN (i:=5) nd rfl (Or.inl rfl) (aC cO (pv 1) (ac bK r1 rfl (pA (pv 0) pC))))) aF)
 (pI (pN (i:=2) nd rfl (Or.inr rfl) (aC fF (pv 2) (eE (own:=["_law_one"]) (outs:=[(2,"_law_found")]) (tc:=me (tOp (rIn K true) (d9 0) (d9 1))) rfl (aL.of (a9 sLf) nLf) (bq (ac eY hr rfl (pA (am aG (pv 3) (pv 4) (fun _ _=>rfl)) (pA (pv 5) pC)))) (fun _ _ _ _=>⟨(ao (i:=0) Bo rfl (Or.inl rfl)),(cC (pO cN (pv 0) (pv 1) (by with_unfolding_all rfl))),(pv 0)⟩))))))))
 (pI (au (pv 2))))))),?_⟩
   dsimp only[bC,bH,bG];have wf0:=wf;obtain⟨hd,sl,ps,nde,hkid⟩:=wf;obtain⟨is,eis,hisl,_⟩:=cU nde;have ebo:oo d=is.map .int:=by rw[nde.eq];exact eis
   have emo:gZ d=dQ hd ps:=by rw[nde.eq];rfl
   have nde0:=nde;obtain⟨ed,hm,hshp,hfew⟩:=nde0;obtain⟨a,xs,rfl,ha,hx⟩:=(show TD K H v (.tuple (.str hd::ps)) from ed▸td).tup_of;obtain⟨x0,xr,rfl,hx0,hxr⟩:∃ x0 xr,xs=x0::xr∧TD K H x0 (.str hd)∧TDs K H xr ps:=by
    cases hx with
    | cons p q=>exact⟨_,_,rfl,p,q⟩
   obtain rfl:=hx0.str_of;obtain⟨ra,xa,rfl,hra,hxa⟩:=tva.tup_of;obtain rfl:=jW hxa;have at0:∀ {x:V} {r:List V},atI (x::r) 0=some x:=fun {x r}=>pJ (j:=0) rfl;have at1:∀ {x y:V} {r:List V},atI (x::y::r) 1=some y:=fun {x y r}=>pJ (j:=1) rfl;have hkl:(ai d).length≤8:=by rw[nde.kids];exact hfew
   refine a7 fun rG iu=>?_;refine⟨f9,fun F hF=>?_⟩;refine iu _ _ (a7 fun nM ig=>?_);have k1:=smu (o:=HO.lst []) hF;have hF1:(upd H F (.lst [])) F=some (.lst []):=pG;generalize upd H F (.lst [])=H1 at k1 hF1 ⊢;have cK:∀ (H2:Hp) (fs0:List Int),aj H H2→H2 F=some (.lst (fs0.map V.int))→fs0.Nodup→(∀ i,i∈fs0↔gZ d=some (.int i)∧i∉as)→fs0.length≤1→nM [some (.ref a),some (.ref ra),some (.ref F),none,none,none] H2:=by
    intro H2 fs0 sm2 hF2 hnd0 hmem0 hlen0;refine ig _ _ (a7 fun sS kK=>?_);refine⟨_,rfl,_,d,n,rfl,td.same sm2,wf0,fun L H3 zs k3 hL hL3 hzs=>?_⟩;have hzl:=hzs.length;refine kK _ _ (a7 fun BD wm=>?_);refine⟨_,rfl,L,zs,rfl,.inl (SqL.of hL3),_,rfl,by omega,by omega,?_⟩;rw[show ((zs.length:Nat):Int).toNat=zs.length from Int.toNat_natCast _];show aA _ _ _ _ _ _;refine aA.byN (bv (n:=zs.length)) (fun k σ Hi=>aj H Hi∧Hi L=some (.lst zs)∧TDs K Hi zs (ai d)∧∃ (G:Addr) (fs:List Int) (x4 x5:Option V),σ=[some (.ref a),some (.ref ra),some (.ref G),some (.ref L),x4,x5]∧Hi G=some (.lst (fs.map V.int))∧fs.Nodup∧(∀ i,i∈fs↔(gZ d=some (.int i)∧i∉as)∨∃ j x,j<k∧(ai d)[j]?=some x∧FrD n x i∧i∉(if j+1=(ai d).length then as++is else as))∧fs.length≤1+(((ai d).take k).map fun x=>(b4 n x).length).sum)
     ⟨sm2.trans k3,hL3,hzs,F,fs0,_,_,rfl,k3 _ _ hF2,hnd0,fun i=>by rw[hmem0];exact⟨.inl,fun z=>z.elim id fun ⟨j,x,hj,_⟩=>absurd hj (Nat.not_lt_zero _)⟩,by simpa using hlen0⟩ (fun _ _ _ _ _=>trivial) ?_ ?_
    · rintro k y σ Hi N_ B_ hN_ hB_ hy ⟨sm,hLi,hzi,G,fs,x4,x5,rfl,hGi,hnd,hmem,hlen⟩;have hic:k<zs.length:=by have:=(gES.mp hy).1;rw[bp] at this;exact this
      obtain rfl:=e9 hy;have hzk:zs[k]?=some zs[k]:=gEE hic;obtain⟨x,hxk,tx⟩:=hzi.get hzk;have wfx:=wf0.kid (mGE hxk);have hlk:(b4 n x).length+(((ai d).take k).map fun x=>(b4 n x).length).sum+1≤(b4 (n+1) d).length:=by
       show _≤(((ai d).map (b4 n)).flatten).length+1;rw[List.length_flatten,List.map_map];have e1:(((ai d).take (k+1)).map fun x=>(b4 n x).length).sum≤((ai d).map (List.length∘b4 n)).sum:=by
        conv=>rhs;rw[← List.take_append_drop (k+1) (ai d),List.map_append,List.sum_append]
        exact Nat.le_add_right _ _
       rw[tAO,hxk,List.map_append,List.sum_append] at e1;have e2:(List.map (fun x=>(b4 n x).length) (some x).toList).sum=(b4 n x).length:=by simp
       omega
      refine a7 fun BB wg=>?_;refine⟨_,rfl,?_⟩;refine wg _ _ (a7 fun AU zP=>?_);have rest2:∀ (H5:Hp) (va':V),aj Hi H5→TD K H5 va' (.tuple ((if k+1=(ai d).length then as++is else as).map .int))→AU [some (.ref a),some (.ref ra),some (.ref G),some (.ref L),some (.int ((k:Nat):Int)),some va'] H5:=by
       intro H5 va' s5 t5;have hal:(if k+1=(ai d).length then as++is else as).length+3*n≤90000:=by
        split
        · rw[lAp];omega
        · omega
       refine zP _ _ ?_;rw[cH];have hG5:=s5 _ _ hGi;refine⟨_,rfl,?_⟩;rw[cn];refine⟨_,rfl,_,rfl,L,zs,_,zs[k],rfl,rfl,SqL.of (s5 _ _ hLi),pJ hzk,_,rfl,_,va',x,_,rfl,tx.same s5,wfx,t5,hal,by omega,fun L' H6 fs' k6 hL6 hnd' hmem' hlen'=>?_⟩;refine⟨L',rfl,⟨_,SqL.of hL6⟩,fun U hU=>?_⟩;have hG6:=k6 _ _ hG5;refine b5.by (aK (xs:=fs'.map V.int)) (fun j σ Hj=>aj H6 Hj∧Hj U=some (.lst (((fs'.take j).filter fun i=>decide (i∉fs)).map V.int))∧∃ y,σ=[y,some (.ref G)]) ⟨smu hU,pG,_,rfl⟩ (fun j σ Hj _ z=>SqL.of (z.1 _ _ hL6)) ?_ ?_
       · rintro j u σ Hj huj ⟨sj,hUj,y',rfl⟩;rw[gEM] at huj;obtain⟨i,hi,rfl⟩:=oMS.mp huj;rw[aY];refine⟨_,rfl,_,rfl,G,fs.map V.int,rfl,.inl (SqL.of (sj _ _ hG6)),rfl,iW _,_,rfl,?_⟩;show if (!inV (V.int i) (fs.map V.int))=true then _ else _
         rw[kJ];rw[o6 _ hi];have hlj:(((fs'.take j).filter fun i=>decide (i∉fs)).map V.int).length<sizeLine:=by
          rw[lMp];have:=List.length_filter_le (fun i=>decide (i∉fs)) (fs'.take j);rw[lTk] at this;omega
         by_cases hin:i∈fs
         · rw[if_neg (by simp[hin]),if_neg (by simp[hin]),List.append_nil];exact⟨sj,hUj,_,rfl⟩
         · rw[if_pos (by simp[hin]),if_pos (by simp[hin])];refine⟨_,rfl,_,hUj,hlj,aD sj hU,?_,_,rfl⟩;rw[pG,List.map_append];rfl
       · rintro σ Hj ⟨sj,hUj,y',rfl⟩;rw[lMp,List.take_length] at hUj;have hfl:(fs'.filter fun i=>decide (i∉fs)).length≤fs'.length:=List.length_filter_le _ _;refine⟨G,U,_,_,rfl,rfl,SqL.of (sj _ _ hG6),SqL.of hUj,by rw[lMp,lMp];omega,fun p hp=>?_⟩;have k7:=smu (o:=HO.lst (fs.map V.int++(fs'.filter fun i=>decide (i∉fs)).map V.int)) hp;have K7:=(s5.trans k6).trans (sj.trans k7);refine hN_ _ _ ⟨sm.trans K7,K7 _ _ hLi,hzi.same K7,p,fs++fs'.filter fun i=>decide (i∉fs),_,_,rfl,by rw[List.map_append];exact pG,?_,fun i=>?_,?_⟩
         · rw[List.nodup_append];refine⟨hnd,hnd'.filter _,fun u hu w hw e=>?_⟩;have:=(List.mem_filter.mp hw).2;rw[← e] at this;simp[hu] at this
         · rw[mAp,List.mem_filter,hmem' i];constructor
           · rintro (z | ⟨⟨z1,z2⟩,z3⟩)
             · rcases (hmem i).mp z with z | ⟨j,x',hj,z⟩
               · exact .inl z
               · exact .inr ⟨j,x',Nat.lt_succ_of_lt hj,z⟩
             · exact .inr ⟨k,x,Nat.lt_succ_self _,hxk,z1,z2⟩
           · rintro (z | ⟨j,x',hj,z1,z2,z3⟩)
             · exact .inl ((hmem i).mpr (.inl z))
             · by_cases hjk:j=k
               · subst hjk;rw[hxk] at z1;cases z1;by_cases hin:i∈fs
                 · exact .inl hin
                 · exact .inr ⟨⟨z2,z3⟩,by simp[hin]⟩
               · exact .inl ((hmem i).mpr (.inr ⟨j,x',by omega,z1,z2,z3⟩))
         · rw[lAp,tAO,hxk,List.map_append,List.sum_append];have e2:(List.map (fun x=>(b4 n x).length) (some x).toList).sum=(b4 n x).length:=by simp
           omega
      refine⟨_,rfl,_,_,rfl,rfl,_,rfl,L,zs,rfl,.inl (SqL.of hLi),rfl,_,rfl,?_⟩;by_cases hlast:k+1=(ai d).length
      · refine pL (by simp;omega) ?_;refine⟨_,rfl,_,rfl,_,d,hd,sl,ps,rfl,td.same sm,nde,fun v5 H5 k5 t5=>?_⟩;rw[eis] at t5;obtain⟨c5,w5,rfl,_,_⟩:=t5.tup_of;refine dz ((tva.same sm).same k5) t5 (by rw[lMp,lMp];omega) fun p H6 k6 t6=>?_;rw[← List.map_append] at t6;exact rest2 H6 _ (k5.trans k6) (by rw[if_pos hlast];exact t6)
      · refine pK (by simp;omega) ?_;exact rest2 Hi _ (aj.refl _) (by rw[if_neg hlast];exact tva.same sm)
    · rintro σ Hi ⟨sm,hLi,hzi,G,fs,x4,x5,rfl,hGi,hnd,hmem,hlen⟩;rw[bp] at hmem hlen;refine wm _ _ ⟨_,rfl,q G Hi fs sm hGi hnd (fun i=>?_) ?_⟩
      · rw[hmem i];constructor
        · rintro (⟨z1,z2⟩ | ⟨j,x,hj,z1,z2,z3⟩)
          · exact⟨.inl z1,z2⟩
          · by_cases hjl:j+1=(ai d).length
            · rw[if_pos hjl,mAp] at z3;refine⟨.inr ⟨j,x,z1,z2,fun _ c=>z3 (.inr ?_)⟩,fun c=>z3 (.inl c)⟩;rw[ebo] at c;obtain⟨u,hu,e⟩:=List.mem_map.mp c;cases e;exact hu
            · rw[if_neg hjl] at z3;exact⟨.inr ⟨j,x,z1,z2,fun c=>absurd c hjl⟩,z3⟩
        · rintro⟨z | ⟨j,x,z1,z2,z3⟩,z4⟩
          · exact .inl ⟨z,z4⟩
          · refine .inr ⟨j,x,by rw[hzl];exact (gES.mp z1).1,z1,z2,?_⟩;by_cases hjl:j+1=(ai d).length
            · rw[if_pos hjl,mAp];rintro (c | c)
              · exact z4 c
              · exact z3 hjl (by rw[ebo];exact List.mem_map.mpr ⟨i,c,rfl⟩)
            · rw[if_neg hjl];exact z4
      · rw[hzl,List.take_length] at hlen;show _≤(((ai d).map (b4 n)).flatten).length+1;rw[List.length_flatten,List.map_map];have:(List.map (List.length∘b4 n) (ai d))=(List.map (fun x=>(b4 n x).length) (ai d)):=rfl;rw[this];omega
   refine⟨_,rfl,a,_,0,.str hd,rfl,rfl,k1.seqT ha,at0,gl,fun t1 ht1=>?_⟩;have k2:=smu (o:=HO.tup (w8.map V.str)) ht1;refine⟨t1,w8.map V.str,rfl,.inr (SqT.of pG),rfl,ck _,_,rfl,?_⟩;rw[dh];have g1:upd H1 t1 (.tup [V.str "name",V.str "set"])=upd H1 t1 (.tup (w8.map V.str)):=rfl;rw[g1];generalize upd H1 t1 (.tup (w8.map V.str))=H2 at k2 ⊢;have K2:=k1.trans k2;have hF2:=k2 _ _ hF1;have ha2:=K2.seqT ha;have hxr2:=hxr.same K2;cases b1:bN hd w8 with
   | false =>
    have em:gZ d=none:=by rw[emo];exact gY b1
    exact aU (aU (cK H2 [] K2 hF2 List.nodup_nil (fun i=>by rw[em];exact⟨fun z=>absurd z nMN,fun z=>(nomatch z.1)⟩) (Nat.zero_le _)))
   | true =>
    obtain⟨y0,yr,rfl,p0,pr,rfl,e0⟩:∃ y0 yr,xr=y0::yr∧∃ p0 pr,ps=p0::pr∧TD K H2 y0 p0:=by
     rcases vR hm b1 with rfl | rfl
     · obtain⟨p0,rfl,_⟩:=fE hshp;obtain⟨y0,rfl,e0⟩:=uY hxr2;exact⟨_,_,rfl,_,_,rfl,e0⟩
     · obtain⟨p0,p1,rfl,_⟩:=cM hshp;obtain⟨y0,y1,rfl,e0,_⟩:=ny hxr2;exact⟨_,_,rfl,_,_,rfl,e0⟩
    have em:gZ d=some p0:=by rw[emo];unfold dQ;rw[if_pos b1];rfl
    obtain⟨i,rfl⟩:=mD nde em;obtain rfl:=e0.int_of;refine bj ⟨_,rfl,a,_,1,_,rfl,rfl,ha2,at1,_,rfl,ra,as.map V.int,rfl,.inr (K2.seqT hra),rfl,iW _,_,rfl,?_⟩;show if (!inV (V.int i) (as.map V.int))=true then _ else _
    rw[kJ];by_cases hin:i∈as
    · rw[if_neg (by simp[hin])];refine cK H2 [] K2 hF2 List.nodup_nil (fun j=>⟨fun z=>absurd z nMN,fun z=>?_⟩) (Nat.zero_le _);obtain⟨z1,z2⟩:=z;rw[em] at z1;cases z1;exact absurd hin z2
    · rw[if_pos (by simp[hin])];refine⟨_,rfl,.inl ⟨rfl,_,SqL.of hF2⟩,_,rfl,a,_,1,_,rfl,rfl,ha2,at1,F,_,_,rfl,rfl,hF2,by show 0<sizeLine;omega,?_⟩;refine cK _ [i] (aD K2 hF) pG (by simp) (fun j=>?_) (Nat.le_refl _);rw[mSg,em];constructor
      · rintro rfl;exact⟨rfl,hin⟩
      · rintro⟨z1,_⟩;cases z1;rfl
theorem vM (D:Def K mg "_law_free" sLf):Fn P w K mg base "_law_free" 2 ["_law_e","_law_around"] (oU K 0):=by
 refine D.fn vn (fun vs H Q E h=>?_) (fun _ _ _ _ _ _ us hl=>by obtain⟨a,b,rfl⟩:=fW hl;rfl) (fun f cdv A outer s' H vs Q E hr h=>?_)
 · obtain⟨v,va,d,as,rfl,_⟩:=h;rfl
 · obtain⟨v,va,d,as,rfl,_,wf,_⟩:=h;exact wf.elim
theorem vL (D:Def K mg "_law_free" sLf) (T:Blt mg) (cG:Fn P w K mg base "_law_parts" 1 ["_law_e"] (rY K)) (bK:Fn P w K mg base "_law_bound_ids" 1 ["_law_e"] (kc K)) (n:Nat):Fn P w K mg base "_law_free" (n+2) ["_law_e","_law_around"] (oU K n):=by
 induction n with
 | zero=>exact vM D
 | succ n ih=>exact zm D T cG bK ih
end
theorem df.put {H:Hp} {kvs:NKV} {k:NK} {b:Addr} (n:df H kvs) (h:bZ H b k) (v:V):df H (dF kvs k b v):=fun x hx=>by
 unfold dF at hx;split at hx
 · obtain⟨y,hy,e⟩:=List.mem_map.mp hx;have:=n y hy;rw[← e];split
   · exact this
   · exact this
 · rcases mAp.mp hx with hx | hx
   · exact n x hx
   · rw[mSg.mp hx];exact h
section
variable {P:Program} {w:World} {K:Fg} {H H':Hp} {A:Adr} {n:Nat} {m:Str→Option V} {ns:List Int} {k:Int} {B:Nat} {skv:NKV}
theorem SI.updL (x:SI P w K H A n m ns k B skv) {W:Addr} {xs ys:List V} (hW:H W=some (.lst xs)) (h1:W∉A.rs) (h2:W≠A.ro) (h3:KL K A.a ns∨W≠A.a):SI P w K (upd H W (.lst ys)) A n m ns k B skv:=by
 have kp:∀ {b:Addr} {o:HO},H b=some o→(∀ ys,o≠.lst ys)→(upd H W (.lst ys)) b=some o:=fun {b o} h hd=>by
  rw[aa fun e=>by rw[e,hW] at h;exact hd _ (Option.some.inj h).symm];exact h
 have kt:∀ c zs,H c=some (.tup zs)→(upd H W (.lst ys)) c=some (.tup zs):=fun c zs h=>kp h fun kvs z=>nomatch z;exact
 { pk:=x.pk.put hW h3
   al:=by
     rcases x.al with z | ⟨b,hb⟩
     · exact .inl z
     · by_cases e:A.a=W
       · exact .inr ⟨_,by rw[e];exact pG⟩
       · exact .inr ⟨b,by rw[aa e];exact hb⟩
   ro:=x.ro
   rv:=by rw[aa (Ne.symm h2)];exact x.rv
   rw:=fun r hr=>by
     obtain⟨ws,g1,g2⟩:=x.rw r hr;have ne:r≠W:=fun e=>h1 (by rw[← e];exact hr);exact⟨ws,by rw[aa ne];exact g1,g2⟩
   rne:=x.rne
   ra:=x.ra
   th:=x.th
   tv:=by obtain⟨kv,h1,h2⟩:=x.tv;exact⟨kv,kp h1 (fun kvs z=>nomatch z),h2⟩
   no:=x.no
   nv:=by obtain⟨kv,h1,h2⟩:=x.nv;exact⟨kv,kp h1 (fun kvs z=>nomatch z),h2⟩
   sp:=x.sp
   sv:=kp x.sv fun kvs z=>nomatch z
   sa:=x.sa.keep kt
   sl:=x.sl
   se:=x.se
   ev:=by obtain⟨kv,h1,h2,h3⟩:=x.ev;exact⟨kv,kp h1 (fun kvs z=>nomatch z),h2.keep kt,h3⟩
   ne:=x.ne }
theorem SI.noded (x:SI P w K H A n m ns k B skv) {kv':List (List Key×V)} (hl:kv'.length≤B+1):SI P w K (upd H A.no (.dT kv')) A n m ns k (B+1) skv:=by
 obtain⟨kv0,h0,_⟩:=x.nv;have kp:∀ {b:Addr} {o:HO},H b=some o→(∀ ys,o≠.dT ys)→(upd H A.no (.dT kv')) b=some o:=fun {b o} h hd=>by
  rw[aa fun e=>by rw[e,h0] at h;exact hd _ (Option.some.inj h).symm];exact h
 have kt:∀ c ys,H c=some (.tup ys)→(upd H A.no (.dT kv')) c=some (.tup ys):=fun c ys h=>kp h fun kvs z=>nomatch z;obtain⟨kvs,hs,hn,hv⟩:=x.pk.st;have sq':SqL K (upd H A.no (.dT kv')) A.a (ns.map V.int):=by
  rcases x.pk.sq with (z | ⟨o,z⟩) | z
  · exact .inl (.inl (kp z fun kvs z=>nomatch z))
  · exact .inl (.inr ⟨o,kp z fun kvs z=>nomatch z⟩)
  · exact .inr z
 exact
 { pk:=⟨⟨kvs,kp hs (fun kvs z=>nomatch z),hn,hv⟩,x.pk.hn,x.pk.sc,x.pk.ne,sq',x.pk.len,x.pk.hk,x.pk.k0⟩
   al:=x.al.imp_right fun ⟨b,hb⟩=>by
     by_cases e:A.a=A.no
     · exact⟨_,by rw[e];exact pG⟩
     · exact⟨b,by rw[aa e];exact hb⟩
   ro:=x.ro
   rv:=kp x.rv fun kvs z=>nomatch z
   rw:=fun r hr=>by obtain⟨ws,h1,h2⟩:=x.rw r hr;exact⟨ws,kp h1 (fun kvs z=>nomatch z),(by lia)⟩
   rne:=x.rne
   ra:=x.ra
   th:=x.th
   tv:=by
     obtain⟨kv,h1,h2⟩:=x.tv;by_cases e:A.th=A.no
     · exact⟨kv',by rw[e];exact pG,hl⟩
     · exact⟨kv,by rw[aa e];exact h1,(by lia)⟩
   no:=x.no
   nv:=⟨kv',pG,hl⟩
   sp:=x.sp
   sv:=kp x.sv fun kvs z=>nomatch z
   sa:=x.sa.keep kt
   sl:=by have:=x.sl;lia
   se:=x.se
   ev:=by obtain⟨kv,h1,h2,h3⟩:=x.ev;exact⟨kv,kp h1 (fun kvs z=>nomatch z),h2.keep kt,(by lia)⟩
   ne:=x.ne }
theorem SI.seend (x:SI P w K H A n m ns k B skv) {kv':NKV} (na:df H kv') (hl:kv'.length≤B+1):SI P w K (upd H A.se (DN P w A.se kv')) A n m ns k (B+1) skv:=by
 obtain⟨kv0,h0,_⟩:=x.ev;have kp:∀ {b:Addr} {o:HO},H b=some o→(∀ ys,o≠.ext ys)→(upd H A.se (DN P w A.se kv')) b=some o:=fun {b o} h hd=>by
  rw[aa fun e=>by rw[e,h0] at h;exact hd _ (Option.some.inj h).symm];exact h
 have kt:∀ c ys,H c=some (.tup ys)→(upd H A.se (DN P w A.se kv')) c=some (.tup ys):=fun c ys h=>kp h fun kvs z=>nomatch z;obtain⟨kvs,hs,hn,hv⟩:=x.pk.st;have sq':SqL K (upd H A.se (DN P w A.se kv')) A.a (ns.map V.int):=by
  rcases x.pk.sq with (z | ⟨o,z⟩) | z
  · exact .inl (.inl (kp z fun kvs z=>nomatch z))
  · exact .inl (.inr ⟨o,kp z fun kvs z=>nomatch z⟩)
  · exact .inr z
 exact
 { pk:=⟨⟨kvs,kp hs (fun kvs z=>nomatch z),hn,hv⟩,x.pk.hn,x.pk.sc,x.pk.ne,sq',x.pk.len,x.pk.hk,x.pk.k0⟩
   al:=x.al.imp_right fun ⟨b,hb⟩=>by
     by_cases e:A.a=A.se
     · exact⟨_,by rw[e];exact pG⟩
     · exact⟨b,by rw[aa e];exact hb⟩
   ro:=x.ro
   rv:=kp x.rv fun kvs z=>nomatch z
   rw:=fun r hr=>by obtain⟨ws,h1,h2⟩:=x.rw r hr;exact⟨ws,kp h1 (fun kvs z=>nomatch z),(by lia)⟩
   rne:=x.rne
   ra:=x.ra
   th:=x.th
   tv:=by obtain⟨kv,h1,h2⟩:=x.tv;exact⟨kv,kp h1 (fun kvs z=>nomatch z),(by lia)⟩
   no:=x.no
   nv:=by obtain⟨kv,h1,h2⟩:=x.nv;exact⟨kv,kp h1 (fun kvs z=>nomatch z),(by lia)⟩
   sp:=x.sp
   sv:=by rw[aa x.ne];exact x.sv
   sa:=x.sa.keep kt
   sl:=by have:=x.sl;lia
   se:=x.se
   ev:=⟨kv',pG,na.keep kt,hl⟩
   ne:=x.ne }
theorem SI.spanned (x:SI P w K H A n m ns k B skv) {kv':NKV} (na:df H kv') (hl:kv'.length≤B+1):SI P w K (upd H A.sp (DN P w A.sp kv')) A n m ns k (B+1) kv':=by
 have h0:=x.sv;have kp:∀ {b:Addr} {o:HO},H b=some o→(∀ ys,o≠.ext ys)→(upd H A.sp (DN P w A.sp kv')) b=some o:=fun {b o} h hd=>by
  rw[aa fun e=>by rw[e,h0] at h;exact hd _ (Option.some.inj h).symm];exact h
 have kt:∀ c ys,H c=some (.tup ys)→(upd H A.sp (DN P w A.sp kv')) c=some (.tup ys):=fun c ys h=>kp h fun kvs z=>nomatch z;obtain⟨kvs,hs,hn,hv⟩:=x.pk.st;have sq':SqL K (upd H A.sp (DN P w A.sp kv')) A.a (ns.map V.int):=by
  rcases x.pk.sq with (z | ⟨o,z⟩) | z
  · exact .inl (.inl (kp z fun kvs z=>nomatch z))
  · exact .inl (.inr ⟨o,kp z fun kvs z=>nomatch z⟩)
  · exact .inr z
 exact
 { pk:=⟨⟨kvs,kp hs (fun kvs z=>nomatch z),hn,hv⟩,x.pk.hn,x.pk.sc,x.pk.ne,sq',x.pk.len,x.pk.hk,x.pk.k0⟩
   al:=x.al.imp_right fun ⟨b,hb⟩=>by
     by_cases e:A.a=A.sp
     · exact⟨_,by rw[e];exact pG⟩
     · exact⟨b,by rw[aa e];exact hb⟩
   ro:=x.ro
   rv:=kp x.rv fun kvs z=>nomatch z
   rw:=fun r hr=>by obtain⟨ws,h1,h2⟩:=x.rw r hr;exact⟨ws,kp h1 (fun kvs z=>nomatch z),(by lia)⟩
   rne:=x.rne
   ra:=x.ra
   th:=x.th
   tv:=by obtain⟨kv,h1,h2⟩:=x.tv;exact⟨kv,kp h1 (fun kvs z=>nomatch z),(by lia)⟩
   no:=x.no
   nv:=by obtain⟨kv,h1,h2⟩:=x.nv;exact⟨kv,kp h1 (fun kvs z=>nomatch z),(by lia)⟩
   sp:=x.sp
   sv:=pG
   sa:=na.keep kt
   sl:=hl
   se:=x.se
   ev:=by obtain⟨kv,h1,h2,h3⟩:=x.ev;exact⟨kv,by rw[aa (Ne.symm x.ne)];exact h1,h2.keep kt,(by lia)⟩
   ne:=x.ne }
theorem ae.no {o:HO}:ae A H (upd H A.no o):=fun b u _ _ _ h _ _ e=>by rw[aa h];exact e
theorem ae.sp {o:HO}:ae A H (upd H A.sp o):=fun b u _ _ _ _ h _ e=>by rw[aa h];exact e
theorem ae.se {o:HO}:ae A H (upd H A.se o):=fun b u _ _ _ _ _ h e=>by rw[aa h];exact e
theorem ae.put {W:Addr} {o:HO} (kp:ae A H H') (h:H W=none):ae A H (upd H' W o):=fun b u h1 h2 h3 h4 h5 h6 e=>by
 rw[aa (bF e h)];exact kp b u h1 h2 h3 h4 h5 h6 e
end
structure Fr (K:Fg) (C:Ctx) (W:Addr):Prop where
  rs:W∉C.A.rs
  ro:W≠C.A.ro
  fo:W≠C.fo
  inn:∀ y∈C.fl,W≠y.2.inner
  al:KL K C.A.a C.ns∨W≠C.A.a
def dX (H:Hp) (a:Addr) (path:List Nat):Prop:=H a=some (.tup (path.map fun n=>V.int ((n:Nat):Int)))
section
variable {P:Program} {w:World} {K:Fg} {H H':Hp} {C:Ctx} {N:Nat} {skv:NKV}
theorem SX.fr (x:SX P w K H C N skv) {W:Addr} (h:H W=none):Fr K C W:=by
 obtain⟨⟨m,k,B,si,r⟩,rr,fe⟩:=x;have ne:∀ {b:Addr} {o:HO},H b=some o→W≠b:=fun {b o} hb e=>by rw[e,hb] at h;cases h
 refine⟨si.new h,ne si.rv,ne fe.fv,fun y hy=>?_,si.al.imp_right fun ⟨b,hb⟩=>ne hb⟩;exact ne (fe.fs y hy).inn
theorem SX.updL (x:SX P w K H C N skv) {W:Addr} (f:Fr K C W) {xs ys:List V} (hW:H W=some (.lst xs)):SX P w K (upd H W (.lst ys)) C N skv:=by
 obtain⟨⟨m,k,B,si,r⟩,rr,fe⟩:=x;refine⟨⟨m,k,B,si.updL hW f.rs f.ro f.al,r⟩,rr,⟨by rw[aa (Ne.symm f.fo)];exact fe.fv,fun y hy=>?_,fe.le,fe.nfo,fe.nf,fe.inn⟩⟩;obtain⟨⟨mf,⟨kvs,h1,h2⟩,r⟩,i⟩:=fe.fs y hy;exact⟨⟨mf,⟨kvs,by rw[aa fun e=>by rw[e,hW] at h1;cases h1];exact h1,h2⟩,r⟩,by rw[aa (Ne.symm (f.inn y hy))];exact i⟩
theorem SX.noded (x:SX P w K H C N skv) {t:Addr} {p i:Int} (ht:H t=some (.tup [.int p,.int i])) (v:V) (hN:N<900000):∃ H',dI H C.A.no (.ref t) v H'∧ae C.A H H'∧SX P w K H' C (N+1) skv:=by
 obtain⟨⟨m,k,B,si,hk,hB,sm⟩,rr,fe⟩:=x;obtain⟨kv,h1,h2⟩:=si.nv;have hz0:(1000000:Nat)<sizeLine:=by decide
 have hl:=bt kv [Sum.inl p,Sum.inl i] v;refine⟨_,dI.t (k:=[Sum.inl p,Sum.inl i]) h1 ht (by lia),ae.no,⟨⟨m,k,B+1,si.noded (by lia),(by lia),(by lia),sm⟩,rr,fe.keep si ae.no⟩⟩
theorem dX.node {a b:Addr} {path:List Nat} (h:dX H a path) {fn:Nat} (hb:H b=some (.tup [.int ((fn:Nat):Int),.ref a])):bZ H b (nk fn path):=by
 refine⟨a,hb,?_⟩;rw[show ((nk fn path).2.map kV)=path.map fun n=>V.int ((n:Nat):Int) by unfold nk;rw[List.map_map];rfl];exact h
theorem SX.seend (x:SX P w K H C N skv) {b:Addr} {k:NK} (hb:bZ H b k) (v:V) (hN:N<900000):∃ kvs,H C.A.se=some (DN P w C.A.se kvs)∧df H kvs∧kvs.length<sizeLine∧ae C.A H (upd H C.A.se (DN P w C.A.se (dF kvs k b v)))∧SX P w K (upd H C.A.se (DN P w C.A.se (dF kvs k b v))) C (N+1) skv:=by
 obtain⟨⟨m,k',B,si,hk,hB,sm⟩,rr,fe⟩:=x;obtain⟨kv,h1,h2,h3⟩:=si.ev;have hz0:(1000000:Nat)<sizeLine:=by decide
 have hl:=dU kv k b v;exact⟨kv,h1,h2,(by lia),ae.se,⟨⟨m,k',B+1,si.seend (df.put h2 hb v) (by lia),(by lia),(by lia),sm⟩,rr,fe.keep si ae.se⟩⟩
theorem SX.spanned (x:SX P w K H C N skv) {b:Addr} {k:NK} (hb:bZ H b k) (v:V) (hN:N<900000):H C.A.sp=some (DN P w C.A.sp skv)∧df H skv∧skv.length<sizeLine∧ae C.A H (upd H C.A.sp (DN P w C.A.sp (dF skv k b v)))∧SX P w K (upd H C.A.sp (DN P w C.A.sp (dF skv k b v))) C (N+1) (dF skv k b v):=by
 obtain⟨⟨m,k',B,si,hk,hB,sm⟩,rr,fe⟩:=x;have hz0:(1000000:Nat)<sizeLine:=by decide
 have hl:=dU skv k b v;have hs:=si.sl;exact⟨si.sv,si.sa,(by lia),ae.sp,⟨⟨m,k',B+1,si.spanned (df.put si.sa hb v) (by lia),(by lia),(by lia),sm⟩,rr,fe.keep si ae.sp⟩⟩
theorem SX.rd (x:SX P w K H C N skv):bO H C.A.s (.str "part") (some (.int ((C.p:Nat):Int)))∧bO H C.A.s (.str "function") (some (.int ((C.fn:Nat):Int)))∧bO H C.A.s (.str "rows") (some (.ref C.A.ro))∧bO H C.A.s (.str "nodes") (some (.ref C.A.no))∧bO H C.A.s (.str "seen") (some (.ref C.A.se))∧bO H C.A.s (.str "spans") (some (.ref C.A.sp))∧H C.A.ro=some (.lst (C.A.rs.map V.ref))∧atI (C.A.rs.map V.ref) ((C.p:Nat):Int)=some (.ref C.r)∧∃ ws:List Str,H C.r=some (.lst (ws.map V.str)):=by
 obtain⟨⟨m,k',B,si,hk,hB,sm⟩,rr,fe⟩:=x;obtain⟨ws,h1,_⟩:=si.rw C.r (mGE rr);exact⟨si.pk.st.get sm.pt,si.pk.st.get sm.fn,si.pk.st.get si.ro,si.pk.st.get si.no,si.pk.st.get si.se,si.pk.st.get si.sp,si.rv,pJ (by rw[gEM,rr];rfl),ws,h1⟩
end
theorem wz {K:Fg} {H:Hp} {a b:Addr} {xs ys:List V} {Q:VK} (ha:H a=some (.tup xs)) (hb:H b=some (.tup ys)) (hy:ys≠[]) (hz:xs.length+ys.length≤100000)
 (q:∀ p H',aj H H'→H' p=some (.tup (xs++ys))→Q (.ref p) H'):kq K (.ref a) (.ref b) H Q:=by
 have hz0:(100000:Nat)<sizeLine:=by decide
 refine⟨a,b,xs,ys,rfl,rfl,SqT.of ha,SqT.of hb,(by lia),fun e=>?_,fun _ e=>absurd e hy,fun _ _ p hp=>?_⟩
 · subst e;exact q b H (aj.refl H) hb
 · exact q p _ (smu hp) pG
theorem fK {K:Fg} {H:Hp} {a b:Addr} {path:List Nat} {i:Int} {j:Nat} {Q:VK} (ha:dX H a path) (hb:H b=some (.tup [.int i])) (hi:i=((j:Nat):Int)) (hz:path.length≤1000)
 (q:∀ p H',aj H H'→dX H' p (path++[j])→Q (.ref p) H'):kq K (.ref a) (.ref b) H Q:=by
 subst hi;refine wz ha hb (by simp) (by simp;lia) fun p H' s hp=>q p H' s ?_;unfold dX;rw[hp,List.map_append];rfl
theorem sV {α:Type}:∀ {l:List α},l.length=5→∃ a b c d e,l=[a,b,c,d,e]:=by
 intro l h;cases l with
 | nil=>cases h
 | cons a r=>obtain⟨b,c,d,e,rfl⟩:=nR (Nat.succ.inj h);exact⟨a,b,c,d,e,rfl⟩
theorem BG {α:Type}:∀ {l:List α},l.length=6→∃ a b c d e f,l=[a,b,c,d,e,f]:=by
 intro l h;cases l with
 | nil=>cases h
 | cons a r=>obtain⟨b,c,d,e,f,rfl⟩:=sV (Nat.succ.inj h);exact⟨a,b,c,d,e,f,rfl⟩
section
variable (P:Program) (w:World) (K:Fg)
def oy (C:Ctx) (sn:List Int) (path:List Nat) (dp N':Nat) (skv:NKV) (H:Hp) (Q:VK):Prop:=∀ v d H' skv',ae C.A H H'→SX P w K H' C N' skv'→TD K H' v d→OkE sn dp d→bm C.fn path (AtP d) skv skv'→Q v H'
structure Pre (H:Hp) (C:Ctx) (N:Nat) (skv:NKV) (pa:Addr) (path:List Nat) (S:Addr) (sn:List Int) (dp:Nat):Prop where
  x:SX P w K H C N skv
  pv:dX H pa path
  pl:path.length+dp≤1000
  se:SeV K H C S sn
  sl:sn.length+3*dp≤100
inductive uI (n:Nat) (vs:List V) (H:Hp) (Q:VK):Prop
  | mk (C:_) (N:_) (skv:_) (pa:_) (path:_) (S:_) (sn:_) (dp:_) (z:_) (g0_:vs=[.ref C.A.s,.ref pa,.ref S,.int z]) (g1_:z=((dp:Nat):Int)) (g2_:Pre P w K H C N skv pa path S sn dp) (g3_:dp<n) (g4_:N+cst dp<900000) (g5_:oy P w K C sn path (dp+1) (N+cst dp) skv H Q):uI n vs H Q
def ka (n:Nat):Sp:=fun vs H Q _=>uI P w K n vs H Q
inductive uD (n:Nat) (vs:List V) (H:Hp) (Q:VK):Prop
  | mk (C:_) (N:_) (skv:_) (pa:_) (path:_) (S:_) (sn:_) (dp:_) (z:_) (g0_:vs=[.ref C.A.s,.ref pa,.ref S,.int z]) (g1_:z=((dp:Nat):Int)) (g2_:Pre P w K H C N skv pa path S sn dp) (g3_:dp<n+1) (g4_:N+(cst dp-3)<900000) (g5_:oy P w K C sn path (dp+1) (N+(cst dp-3)) skv H Q):uD n vs H Q
def xH (n:Nat):Sp:=fun vs H Q _=>uD P w K n vs H Q
inductive uL (n:Nat) (vs:List V) (H:Hp) (Q:VK):Prop
  | mk (C:_) (N:_) (skv:_) (pa:_) (path:_) (S:_) (sn:_) (dp:_) (z:_) (g0_:vs=[.ref C.A.s,.ref pa,.ref S,.int z]) (g1_:z=((dp+1:Nat):Int)) (g2_:Pre P w K H C N skv pa path S sn (dp+1)) (g3_:dp<n) (g4_:N+8*cst dp+36<900000) (g5_:oy P w K C sn path (dp+2) (N+8*cst dp+36) skv H Q):uL n vs H Q
def xN (n:Nat):Sp:=fun vs H Q _=>uL P w K n vs H Q
inductive uq (n:Nat) (vs:List V) (H:Hp) (Q:VK):Prop
  | mk (C:_) (N:_) (skv:_) (pa:_) (path:_) (S:_) (sn:_) (dp:_) (z:_) (g0_:vs=[.ref C.A.s,.ref pa,.ref S,.int z]) (g1_:z=((dp+1:Nat):Int)) (g2_:Pre P w K H C N skv pa path S sn (dp+1)) (g3_:dp<n) (g4_:N+8*cst dp+36<900000) (g5_:dZ C "record"≠[]) (g6_:oy P w K C sn path (dp+2) (N+8*cst dp+36) skv H Q):uq n vs H Q
def xB (n:Nat):Sp:=fun vs H Q _=>uq P w K n vs H Q
inductive ug (W:Int→Prop) (n:Nat) (vs:List V) (H:Hp) (Q:VK):Prop
  | mk (C:_) (N:_) (skv:_) (pa:_) (path:_) (S:_) (sn:_) (dp:_) (z:_) (y:_) (g0_:vs=[.ref C.A.s,.ref pa,.ref S,.int z,.int y]) (g1_:z=((dp+1:Nat):Int)) (g2_:W y) (g3_:Pre P w K H C N skv pa path S sn (dp+1)) (g4_:dp<n) (g5_:N+8*cst dp+36<900000) (g6_:oy P w K C sn path (dp+2) (N+8*cst dp+36) skv H Q):ug W n vs H Q
def nA (W:Int→Prop) (n:Nat):Sp:=fun vs H Q _=>ug P w K W n vs H Q
inductive ul (n:Nat) (vs:List V) (H:Hp) (Q:VK):Prop
  | mk (C:_) (N:_) (skv:_) (pa:_) (path:_) (S:_) (sn:_) (dp:_) (z:_) (y:_) (many:_) (g0_:vs=[.ref C.A.s,.ref pa,.ref S,.int z,.int 0,.int y]) (g1_:z=((dp+1:Nat):Int)) (g2_:y=((many:Nat):Int)) (g3_:Pre P w K H C N skv pa path S sn (dp+1)) (g4_:dp<n) (g5_:many≤8) (g6_:N+many*cst dp<900000) (g7_:∀ v ds H' skv',ae C.A H H'→SX P w K H' C (N+many*cst dp) skv'→TD K H' v (.tuple ds)→ds.length=many→(∀ x∈ds,OkE sn (dp+1) x)→bm C.fn path (eJ ds) skv skv'→Q v H'):ul n vs H Q
def oS (n:Nat):Sp:=fun vs H Q _=>ul P w K n vs H Q
end
section
variable {P:Program} {w:World} {K:Fg} {mg:SOV} {base:Heap}
theorem Pre.keep {H H':Hp} {C:Ctx} {N N':Nat} {skv skv':NKV} {pa S:Addr} {path:List Nat} {sn:List Int} {dp:Nat} (p:Pre P w K H C N skv pa path S sn dp) (kp:ae C.A H H') (x':SX P w K H' C N' skv'):Pre P w K H' C N' skv' pa path S sn dp :=
 ⟨x',p.x.kT kp p.pv,p.pl,p.se.keep p.x kp,p.sl⟩
theorem Pre.same {H H':Hp} {C:Ctx} {N:Nat} {skv:NKV} {pa S:Addr} {path:List Nat} {sn:List Int} {dp:Nat} (p:Pre P w K H C N skv pa path S sn dp) (k:aj H H'):Pre P w K H' C N skv pa path S sn dp:=p.keep (ae.of k) (p.x.same k)
theorem eJ.more {ds es:PDs} {q:List Nat} (h:eJ ds q):eJ (ds++es) q:=by
 obtain⟨i,r,x,e,h1,h2⟩:=h;exact⟨i,r,x,e,by rw[List.getElem?_append_left (gES.mp h1).1];exact h1,h2⟩
abbrev sSo:Stmt:=top 30
abbrev dG:List Str:=["_law_state","_law_path","_law_seen_here","_law_deep"]
abbrev jn:List Str:=["_law_state","_law_path","_law_seen_here","_law_deep","_law_way"]
abbrev nF:List Str:=["_law_state","_law_path","_law_seen_here","_law_deep","_law_first","_law_many"]
theorem xY:ax ["_law_state","_law_path","_law_seen_here","_law_deep","_law_first","_law_many","_law_found","_law_k"] nF (a9 sSo):=fsM
theorem yU {n:Nat} (D:Def K mg "_law_some" sSo) (T:Blt mg) (bU:Fn P w K mg base "_law_expr" (5*n+5) dG (ka P w K n)):Fn P w K mg base "_law_some" (5*n+6) nF (oS P w K n):=by
 refine D.fn xY (fun vs H Q E h=>?_) (fun _ _ _ _ _ _ us hl=>by obtain⟨a,b,c,d,e,f,rfl⟩:=BG hl;rfl) (fun f cdv A outer s' H vs Q E hr h=>?_)
 · obtain⟨C,N,skv,pa,path,S,sn,dp,z,y,many,rfl,_⟩:=h;rfl
 · obtain⟨C,N,skv,pa,path,S,sn,dp,z,y,many,rfl,rfl,rfl,pre,hdp,hm8,hN,q⟩:=h;have nd:=xY.nd;have hz0:(1000000:Nat)<sizeLine:=by decide
   have hpl:=pre.pl;refine⟨_,(pE (pN (i:=6) nd rfl (Or.inl rfl) (ag pC))
 (pE (bx PassesOwn.never rfl (bL rfl T.range (pA (pv 5) pC)) (ao (i:=7) nd rfl (Or.inl rfl))
 (pI (ak (aV (pv 6) (pA (ac bU (hr.mono (by lia)) rfl (pA (pv 0) (pA (aC cO (pv 1) (az (pA (aC bY (pv 4) (pv 7)) pC))) (pA (pv 2) (pA (aC bX (pv 3) pH) pC))))) pC)))))
 (pI (au (bA T.tuple (pA (pv 6) pC)))))),?_⟩
   dsimp only[bC,bH,bG];refine a7 fun Dq BT=>?_;refine⟨f9,fun W hW=>?_⟩;refine BT _ _ (a7 fun Dp BS=>?_);have k1:=smu (o:=HO.lst []) hW;have hW1:(upd H W (.lst [])) W=some (.lst []):=pG;have fr:=pre.x.fr hW;generalize upd H W (.lst [])=H1 at k1 hW1 ⊢;have pre1:=pre.same k1;refine⟨_,rfl,_,rfl,(by lia),(by lia),?_⟩;rw[show ((many:Nat):Int).toNat=many from Int.toNat_natCast _];show aA _ _ _ _ _ _;refine aA.byN (bv (n:=many)) (fun i σ Hi=>ae C.A H Hi∧(∃ skv' zs ds,Pre P w K Hi C (N+i*cst dp) skv' pa path S sn (dp+1)∧Hi W=some (.lst zs)∧TDs K Hi zs ds∧ds.length=i∧(∀ x∈ds,OkE sn (dp+1) x)∧bm C.fn path (eJ ds) skv skv')∧∃ x7,σ=[some (.ref C.A.s),some (.ref pa),some (.ref S),some (.int ((dp+1:Nat):Int)),some (.int 0),some (.int ((many:Nat):Int)),some (.ref W),x7])
    ⟨ae.of k1,⟨skv,[],[],by rw[Nat.zero_mul];exact pre1,hW1,.nil,rfl,by simp,bm.refl _ _ _ _⟩,_,rfl⟩ (fun _ _ _ _ _=>trivial) ?_ ?_
   · rintro i x σ Hi N_ B_ hN_ hB_ hx ⟨kp,⟨skv',zs,ds,prei,hWi,hts,hdl,hok,hgr⟩,x7,rfl⟩;have hic:i<many:=by have:=(gES.mp hx).1;rw[bp] at this;exact this
     obtain rfl:=e9 hx;have hmul:(i+1)*cst dp≤many*cst dp:=Nat.mul_le_mul_right _ hic;have hmul1:(i+1)*cst dp=i*cst dp+cst dp:=Nat.succ_mul _ _;refine⟨_,rfl,.inl ⟨rfl,_,SqL.of hWi⟩,_,rfl,_,rfl,_,rfl,_,rfl,_,_,rfl,rfl,eC,fun t ht=>?_⟩;have k2:=smu (o:=HO.tup [V.int (0+((i:Nat):Int))]) ht;have ht2:(upd Hi t (.tup [V.int (0+((i:Nat):Int))])) t=some (.tup [V.int (0+((i:Nat):Int))]):=pG;generalize upd Hi t (.tup [V.int (0+((i:Nat):Int))])=H2 at k2 ht2 ⊢;have pre2:=prei.same k2;refine fK (j:=i) pre2.pv ht2 (by lia) (by lia) fun p3 H3 k3 hp3=>?_;have pre3:=pre2.same k3;have kp3:=kp.trans (ae.of (k2.trans k3));refine⟨_,rfl,_,rfl,_,_,rfl,rfl,C,_,skv',p3,path++[i],S,sn,dp,_,rfl,(by lia),⟨pre3.x,hp3,by rw[lAp];show path.length+1+dp≤1000;lia,pre3.se,by have:=pre3.sl;lia⟩,hdp,by lia,fun v d H4 skv4 kp4 x4 tv ok gr=>?_⟩;have hW4:=pre3.x.kL kp4 (k3 _ _ (k2 _ _ hWi)) fr.rs;have zl:=hts.length;have pre4:=pre3.keep kp4 x4;refine⟨W,_,_,rfl,rfl,hW4,by lia,hN_ _ _ ⟨(kp3.trans kp4).put hW,⟨skv4,zs++[v],ds++[d],?_,pG,?_,by simp[hdl],fun y hy=>?_,?_⟩,_,rfl⟩⟩
     · have x5:=x4.updL (ys:=zs++[v]) fr hW4;rw[hmul1,← Nat.add_assoc];obtain⟨xs',sv',g1,g2,g3,g4⟩:=pre4.se;have hSW:S≠W:=fun e=>by
        obtain⟨_,_,g,_⟩:=pre.se;rw[e,hW] at g;cases g
       exact⟨x5,by unfold dX;rw[aa fun e=>by have:=pre4.pv;unfold dX at this;rw[e,hW4] at this;cases this];exact pre4.pv,pre4.pl,⟨xs',sv',by rw[aa hSW];exact g1,g2.tk (aZ (.inr ⟨_,hW4⟩)),g3,g4⟩,pre4.sl⟩
     · exact (TDs.snoc (hts.tk (pre3.x.tk kp4|>fun t=>(k2.trans k3).tk.trans t)) tv).tk (aZ (.inr ⟨_,hW4⟩))
     · rcases mAp.mp hy with hy | hy
       · exact hok y hy
       · rw[mSg.mp hy];exact ok
     · refine (hgr.imp fun q h=>eJ.more h).trans ?_;exact bm.kid gr (by rw[List.getElem?_append_right (by lia),hdl];simp)
   · rintro σ Hi ⟨kp,⟨skv',zs,ds,prei,hWi,hts,hdl,hok,hgr⟩,x7,rfl⟩;refine BS _ _ ?_;rw[bp] at hdl prei;refine⟨_,rfl,W,zs,rfl,.inl ⟨SqL.of hWi,fun l hl=>?_⟩⟩;have k5:=smu (o:=HO.tup zs) hl;exact q _ ds _ skv' (kp.trans (ae.of k5)) (prei.x.same k5) (.tup (SqT.of pG) (hts.same k5)) hdl hok hgr
end
end K11
namespace P10
open PySem L2
theorem ox {α:Type} {p:α→Prop} {a:α} (ha:p a):∀ x∈[a],p x:=fun x hx=>by rw[mSg.mp hx];exact ha
theorem iD {α:Type} {p:α→Prop} {a b:α} (ha:p a) (hb:p b):∀ x∈[a,b],p x:=fun x hx=>by
 rcases List.mem_cons.mp hx with rfl | hx
 · exact ha
 · exact ox hb x hx
theorem tK {α:Type} {p:α→Prop} {a b c:α} (ha:p a) (hb:p b) (hc:p c):∀ x∈[a,b,c],p x:=fun x hx=>by
 rcases List.mem_cons.mp hx with rfl | hx
 · exact ha
 · exact iD hb hc x hx
theorem bm.node {fn:Nat} {path:List Nat} {d:PyData} {ds:PDs} {a b:NKV} (ek:ai d=ds) (g:bm fn path (eJ ds) a b):bm fn path (AtP d) a b:=by
 rw[← ek] at g;exact g.up
theorem OkE.dep1 {B:List Int} {n:Nat} {d:PyData} (h:OkE B n d):d.depth≤2*n+1:=by have:=h.dep;lia
theorem wQ {h:Str} (e:bN h w2=true):bN h w8=false:=by
 have:∀ x∈w2,bN x w8=false:=by decide +kernel
 exact this h (by unfold bN at e;simpa using e)
theorem qM {B:List Int} {n:Nat} {h:Str} {i:Int} {d1 d2:PyData} (hm:(h,(["bound","one","one"]:List Str))∈tbl) (e:bN h w2=true) (ok1:OkE B n d1) (ok2:OkE (B++[i]) n d2):∀ j,FrD (n+1) (.tuple (.str h::[.int i,d1,d2])) j→j∈B:=fun j z=>by
 rcases z with z | ⟨k,x,h1,h2,h3⟩
 · have z':dQ h [.int i,d1,d2]=some (.int j):=z;rw[gY (wQ e)] at z';cases z'
 · rw[jy (ks:=[d1,d2]) hm (.cons (ji (by decide +kernel)) (.cons iy (.cons iy .nil))) rfl (by show 2≤8;decide)] at h1 h3
   rcases (show k=0∨k=1 by have:=(gES.mp h1).1;simp at this;omega) with rfl | rfl
   · cases h1;exact ok1.cl j h2
   · cases h1;have h4:PyData.int j∉cg h [.int i,d1,d2]:=h3 rfl;unfold cg at h4;rw[if_pos e] at h4
     rcases mAp.mp (ok2.cl j h2) with z | z
     · exact z
     · exact absurd (by rw[mSg.mp z];exact mSg.mpr rfl) h4
end P10
namespace K11
open PySem L2 P10
section
variable {P:Program} {w:World} {K:Fg} {mg:SOV} {base:Heap}
theorem SeV.cat {H:Hp} {C:Ctx} {N:Nat} {skv:NKV} {W:Addr} {sn:List Int} {xs ys:List V} {sv tv:List (Str×Int×Bool×Int)} (x:SX P w K H C N skv) (hS:TDs K H xs (sv.map dSe)) (hT:TDs K H ys (tv.map dSe)) (h1:(sv.map fun t=>t.2.1)=sn) (hW:H W=none):SeV K (upd H W (.lst (xs++ys))) C W (sn++tv.map fun t=>t.2.1):=by
 have k:=smu (o:=HO.lst (xs++ys)) hW;refine⟨_,sv++tv,pG,?_,by rw[List.map_append,h1],x.new hW⟩;rw[List.map_append];exact (hS.same k).app (hT.same k)
abbrev sBo:Stmt:=top 31
theorem yt:ax ["_law_state","_law_path","_law_seen_here","_law_deep","_law_head","_law_local","_law_thing","_law_body"] dG (a9 sBo):=fsM
theorem zB {n:Nat} (D:Def K mg "_law_bound" sBo) (T:Blt mg) (ab:Fn P w K mg base "_law_pick" 2 ["_law_state","_law_many"] (fj P w K)) (af:Fn P w K mg base "_law_lay" 1 ["_law_state","_law_words"] (fk P w K)) (bT:Fn P w K mg base "_law_name" 3 ["_law_state"] (mm P w K)) (bV:Fn P w K mg base "_law_bind" 2 ["_law_state","_law_name_here","_law_is_var"] (iP P w K)) (bU:Fn P w K mg base "_law_expr" (5*n+5) dG (ka P w K n)):Fn P w K mg base "_law_bound" (5*n+8) dG (xN P w K n):=by
 refine D.fn yt (fun vs H Q E h=>?_) (fun _ _ _ _ _ _ us hl=>by obtain⟨a,b,c,d,rfl⟩:=nR hl;rfl) (fun f cdv A outer s' H vs Q E hr h=>?_)
 · obtain⟨C,N,skv,pa,path,S,sn,dp,z,rfl,_⟩:=h;rfl
 · obtain⟨C,N,skv,pa,path,S,sn,dp,z,rfl,rfl,pre,hdp,hN,q⟩:=h;have nd:=yt.nd;have hz0:(1000000:Nat)<sizeLine:=by decide
   have hpl:=pre.pl;have hsl:=pre.sl;have hc:=dw dp;refine⟨_,(pE (pN (i:=4) nd rfl (Or.inl rfl) (am aG (ag (pA pD (pA pD (pA pD pC)))) (ac ab (hr.mono (by lia)) rfl (pA (pv 0) (pA pH pC))) (fun _ _=>rfl))) (pE (ak (ac af (hr.mono (by lia)) rfl (pA (pv 0) (pA (ag (pA pD (pA (pv 4) pC))) pC)))) (pE (pN (i:=5) nd rfl (Or.inl rfl) (ac bV (hr.mono (by lia)) rfl (pA (pv 0) (pA (ac bT (hr.mono (by lia)) rfl (pA (pv 0) pC)) (pA (mC aT (pv 4) pD (pP _)) pC))))) (pE (pN (i:=6) nd rfl (Or.inl rfl) (ac bU (hr.mono (by lia)) rfl (pA (pv 0) (pA (aC cO (pv 1) (az (pA pH pC))) (pA (pv 2) (pA (aC bX (pv 3) pH) pC)))))) (pE (pN (i:=7) nd rfl (Or.inl rfl) (ac bU (hr.mono (by lia)) rfl (pA (pv 0) (pA (aC cO (pv 1) (az (pA pH pC))) (pA (aC fF (pv 2) (ag (pA (pv 5) pC))) (pA (aC bX (pv 3) pH) pC)))))) (pE (ak (ac af (hr.mono (by lia)) rfl (pA (pv 0) (pA (ag (pA pD pC)) pC)))) (pI (au (az (pA (pv 4) (pA (am aB (pv 5) pH (fun _ _=>rfl)) (pA (pv 6) (pA (pv 7) pC))))))))))))),?_⟩;dsimp only[bC,bH,bG];refine a7 fun BE wn=>?_;refine⟨eB,fun L hL=>?_⟩;have k1:=smu (o:=HO.lst [V.str "let",V.str "var",V.str "each"]) hL;have hL1:(upd H L (.lst [V.str "let",V.str "var",V.str "each"])) L=some (.lst [V.str "let",V.str "var",V.str "each"]):=pG;generalize upd H L (.lst [V.str "let",V.str "var",V.str "each"])=H1 at k1 hL1 ⊢;have pre1:=pre.same k1;refine⟨_,rfl,C,N,skv,3,rfl,pre1.x,by lia,by decide,fun r H2 r0 r1 kp2 x2=>?_⟩;have pre2:=pre1.keep kp2 x2;have hL2:=pre1.x.kL kp2 hL1 (pre.x.new hL);obtain⟨j,rfl⟩:=Int.eq_ofNat_of_zero_le r0;obtain⟨h,hh,hm,hs,hw2⟩:∃ h:Str,([V.str "let",V.str "var",V.str "each"]:List V)[j]?=some (.str h)∧(h,(["bound","one","one"]:List Str))∈tbl∧(PyData.str h).canLay0=true∧bN h w2=true:=by
    rcases (show j=0∨j=1∨j=2 by lia) with rfl | rfl | rfl
    · exact⟨"let",rfl,by decide +kernel,by decide +kernel,by decide +kernel⟩
    · exact⟨"var",rfl,by decide +kernel,by decide +kernel,by decide +kernel⟩
    · exact⟨"each",rfl,by decide +kernel,by decide +kernel,by decide +kernel⟩
   refine⟨L,_,_,.str h,rfl,rfl,SqL.of hL2,pJ hh,?_⟩;refine wn _ _ (a7 fun BA wd=>?_);refine⟨_,rfl,_,rfl,gl,fun M hM=>?_⟩;have k3:=smu (o:=HO.lst [V.str "(",V.str h]) hM;refine⟨C,_,skv,M,["(",h],2,rfl,rfl,x2.same k3,pG,x2.new hM,(by lia),fun i3 H3 kp3 x3=>?_⟩;refine wd _ _ (a7 fun Du BX=>?_);have kp3':=(ae.of k3).trans kp3;have pre3:=pre2.keep kp3' x3;refine⟨_,rfl,_,rfl,C,_,skv,rfl,x3,(by lia),fun z H4 hz kp4 x4=>?_⟩;have pre4:=pre3.keep kp4 x4;refine⟨_,rfl,rfl,C,_,skv,z,_,rfl,x4,(by lia),fun v t H5 kp5 x5 tv=>?_⟩;refine BX _ _ (a7 fun zI qz=>?_);have pre5:=pre4.keep kp5 x5;obtain⟨av,rfl,hav⟩:=dD tv;have Cn:=(ae.of k1).trans (kp2.trans (kp3'.trans (kp4.trans kp5)));refine⟨_,rfl,_,rfl,eC,fun t6 ht6=>?_⟩;have k6:=smu (o:=HO.tup [V.int 0]) ht6;have ht6':(upd H5 t6 (.tup [V.int 0])) t6=some (.tup [V.int 0]):=pG;generalize upd H5 t6 (.tup [V.int 0])=H6 at k6 ht6' ⊢;refine fK (j:=0) (pre5.same k6).pv ht6' rfl (by lia) fun p7 H7 k7 hp7=>?_;have k67:=k6.trans k7;have pre7:=pre5.same k67;refine⟨_,rfl,_,rfl,_,_,rfl,rfl,C,_,skv,p7,path++[0],S,sn,dp,_,rfl,(by lia),⟨pre7.x,hp7,by rw[lAp];show path.length+1+dp≤1000;lia,pre7.se,(by lia)⟩,hdp,(by lia),fun v1 d1 H8 skv8 kp8 x8 td1 ok1 gr1=>?_⟩;refine qz _ _ (a7 fun Bz wc=>?_);have pre8:=pre7.keep kp8 x8;have Cm:=Cn.trans ((ae.of k67).trans kp8);have tv8:=(tv.same k67).tk (pre7.x.tk kp8);refine⟨_,rfl,_,rfl,eC,fun t9 ht9=>?_⟩;have k9:=smu (o:=HO.tup [V.int 1]) ht9;have ht9':(upd H8 t9 (.tup [V.int 1])) t9=some (.tup [V.int 1]):=pG;generalize upd H8 t9 (.tup [V.int 1])=H9 at k9 ht9' ⊢;refine fK (j:=1) (pre8.same k9).pv ht9' rfl (by lia) fun p10 H10 k10 hp10=>?_;have k910:=k9.trans k10;have pre10:=pre8.same k910;refine⟨_,rfl,_,rfl,eC,fun t11 ht11=>?_⟩;have k11:=smu (o:=HO.lst [V.ref av]) ht11;have ht11':(upd H10 t11 (.lst [V.ref av])) t11=some (.lst [V.ref av]):=pG;have tv11:=(tv8.same k910).same k11;generalize upd H10 t11 (.lst [V.ref av])=H11 at k11 ht11' tv11 ⊢;have pre11:=pre10.same k11;obtain⟨xs,sv,g1,g2,g3,g4⟩:=pre11.se;have xl:=g2.length;rw[lMp] at xl;have g3l:=congrArg List.length g3;rw[lMp] at g3l;refine⟨S,t11,_,_,rfl,rfl,SqL.of g1,SqL.of ht11',by simp;lia,fun W hW=>?_⟩;have k12:=smu (o:=HO.lst (xs++[V.ref av])) hW;have se12:=SeV.cat (tv:=[t]) pre11.x g2 (.cons tv11 .nil) g3 hW;have hp12:=k12 _ _ (k11 _ _ hp10);generalize upd H11 W (.lst (xs++[V.ref av]))=H12 at k12 se12 hp12 ⊢;have pre12:=pre11.same k12;refine⟨_,rfl,_,_,rfl,rfl,C,_,skv8,p10,path++[1],W,sn++[t.2.1],dp,_,rfl,(by lia),⟨pre12.x,hp12,by rw[lAp];show path.length+1+dp≤1000;lia,se12,by rw[lAp];show sn.length+1+_≤_;lia⟩,hdp,by lia,fun v2 d2 H13 skv13 kp13 x13 td2 ok2 gr2=>?_⟩;refine wc _ _ (a7 fun qk ii=>?_);have K12:=k910.trans (k11.trans k12);have rq:=Cm.trans ((ae.of K12).trans kp13);have tv13:=(tv8.same K12).tk (pre12.x.tk kp13);have td13:=(td1.same K12).tk (pre12.x.tk kp13);refine⟨_,rfl,eC,fun M2 hM2=>?_⟩;have k14:=smu (o:=HO.lst [V.str ")"]) hM2;refine⟨C,_,skv13,M2,[")"],1,rfl,rfl,x13.same k14,pG,x13.new hM2,by lia,fun i15 H15 kp15 x15=>?_⟩;refine ii _ _ ?_;have kp15':=(ae.of k14).trans kp15;have tk15:=x13.tk kp15';obtain⟨av',e,hav15⟩:=dD (tv13.tk tk15);cases e;refine⟨_,rfl,_,rfl,av,_,1,_,rfl,rfl,hav15,pJ (j:=1) rfl,_,rfl,_,rfl,Cr,fun u hu'=>?_⟩;have k16:=smu (o:=HO.tup [V.str h,V.int t.2.1,v1,v2]) hu';obtain⟨ok,ek⟩:=OkE.makeG (B':=sn++[t.2.1]) (n:=dp+1) (ps:=[.int t.2.1,d1,d2]) (ks:=[d1,d2]) hm hs (.cons (ji (by decide +kernel)) (.cons iy (.cons iy .nil))) rfl (tK rfl ok1.lay ok2.lay) (tK (Nat.zero_le _) ok1.dep1 ok2.dep1) (by show 2≤8;decide) (iD (ok1.wide fun i z=>List.mem_append_left _ z) ok2) (qM (n:=dp+1) hm hw2 ok1 ok2);refine q _ _ _ skv13 (rq.trans (kp15'.trans (ae.of k16))) ((x15.same k16).more (by lia)) (.tup (SqT.of pG) (.cons (.str _) (.cons (.int _) (.cons ((td13.tk tk15).same k16) (.cons ((td2.tk tk15).same k16) .nil))))) ok ?_;exact bm.node ek ((bm.kid gr1 rfl).trans (bm.kid gr2 rfl))
end
end K11
namespace P10
open PySem L2
theorem OkE.many {B:List Int} {n:Nat} {h s:Str} {p:PyData} {ds:PDs} (hm:(h,[s,"many"])∈tbl) (h1:s≠"one") (h2:s≠"many") (hsp:Shp s p) (hs:(PyData.str h).canLay0=true) (hp:p.canLay0=true) (hd:p.depth=0) (hl:ds.length≤8) (ho:∀ x∈ds,OkE B n x) (hm8:bN h w8=false:=by decide +kernel):OkE B (n+1) (.tuple [.str h,p,.tuple ds])∧ai (.tuple [.str h,p,.tuple ds])=ds:=by
 refine OkE.make (ps:=[p,.tuple ds]) hm hs (.cons hsp (.cons vj .nil)) ?_ (iD hp (ef fun x hx=>(ho x hx).lay)) (iD (by rw[hd];exact Nat.zero_le _) (eh fun x hx=>(ho x hx).dep)) (by lia) ho hm8;show b8 s p++(ds++[])=ds;unfold b8;rw[if_neg h1,if_neg h2];simp
end P10
namespace K11
open PySem L2 P10
section
variable {P:Program} {w:World} {K:Fg} {mg:SOV} {base:Heap}
theorem SX.form {H:Hp} {C:Ctx} {N:Nat} {skv:NKV} (x:SX P w K H C N skv) {y:Addr×Frm} (hy:y∈C.fl):bO H y.1 (.str "name") (some (.str y.2.name))∧bO H y.1 (.str "number") (some (.int y.2.number))∧bO H y.1 (.str "inner") (some (.ref y.2.inner))∧H y.2.inner=some (.lst (y.2.inn.map V.str))∧y.2.inn.length≤4∧(y.2.sort="record"→0<y.2.inn.length):=by
 obtain⟨⟨m,k',B,si,hk,hB,sm⟩,rr,fe⟩:=x;obtain⟨⟨mf,stf,f1,f2,f3,f4,f5,f6⟩,hi⟩:=fe.fs y hy;obtain⟨i1,i2⟩:=fe.inn y hy;exact⟨stf.get f4,stf.get f6,stf.get f5,hi,i1,i2⟩
abbrev sRe:Stmt:=top 33
theorem y4:ax ["_law_state","_law_path","_law_seen_here","_law_deep","_law_some_here","_law_form_here","_law_e","_law_field"] dG (a9 sRe):=fsM
theorem yX {n:Nat} (D:Def K mg "_law_record" sRe) (T:Blt mg) (ab:Fn P w K mg base "_law_pick" 2 ["_law_state","_law_many"] (fj P w K)) (af:Fn P w K mg base "_law_lay" 1 ["_law_state","_law_words"] (fk P w K)) (aP:Fn P w K mg base "_law_tell" 1 ["_law_state","_law_at","_law_thing"] (iO P w K)) (bc:Fn P w K mg base "_law_choices" 2 ["_law_state","_law_sort"] (mr P w K)) (bI:Fn P w K mg base "_law_some" (5*n+6) nF (oS P w K n)):Fn P w K mg base "_law_record" (5*n+7) dG (xB P w K n):=by
 refine D.fn y4 (fun vs H Q E h=>?_) (fun _ _ _ _ _ _ us hl=>by obtain⟨a,b,c,d,rfl⟩:=nR hl;rfl) (fun f cdv A outer s' H vs Q E hr h=>?_)
 · obtain⟨C,N,skv,pa,path,S,sn,dp,z,rfl,_⟩:=h;rfl
 · obtain⟨C,N,skv,pa,path,S,sn,dp,z,rfl,rfl,pre,hdp,hN,hne,q⟩:=h;have nd:=y4.nd;have hu:=bS hr;have hz0:(1000000:Nat)<sizeLine:=by decide
   have hc:=dw dp;obtain⟨t3,h3,q3⟩:∃ t,PSs (cE CX0 P w K mg base ["_law_state","_law_path","_law_seen_here","_law_deep","_law_some_here","_law_form_here","_law_e","_law_field"] "_law_record" (a9 sRe) f cdv A outer s' H E).nox ((aQ sRe).drop 3) t ∧
    ∀ (H1:Hp) (N1:Nat) (skv1:NKV) (v:V) (d:PyData) (x4 x5 x7:Option V),ae C.A H H1→SX P w K H1 C N1 skv1→N1+1≤N+8*cst dp+36→TD K H1 v d→OkE sn (dp+2) d→bm C.fn path (AtP d) skv skv1→t {nx:=fun _ H'=>Q .non H',rt:=Q} [some (.ref C.A.s),some (.ref pa),some (.ref S),some (.int ((dp+1:Nat):Int)),x4,x5,some v,x7] H1:=by
    refine⟨_,(pE (ak (ac af (hr.mono (by lia)) rfl (pA (pv 0) (pA (ag (pA pD pC)) pC)))) (pI (au (pv 6)))),fun H1 N1 skv1 v d x4 x5 x7 kp x hN1 td ok gr=>?_⟩;refine a7 fun DG C8=>?_;refine⟨_,rfl,eC,fun M hM=>?_⟩;have k2:=smu (o:=HO.lst [V.str ")"]) hM;refine⟨C,_,skv1,M,[")"],1,rfl,rfl,x.same k2,pG,x.new hM,(by lia),fun i3 H3 kp3 x3=>?_⟩;refine C8 _ _ ?_;have kp3':=(ae.of k2).trans kp3;exact⟨_,rfl,q v d H3 skv1 (kp.trans kp3') (x3.more hN1) (td.tk (x.tk kp3')) ok gr⟩
   refine⟨_,(pE (pN (i:=4) nd rfl (Or.inl rfl) (ac bc (hr.mono (by lia)) rfl (pA (pv 0) (pA pD pC)))) (pE (pN (i:=5) nd rfl (Or.inl rfl) (am aG (pv 4) (ac ab (hr.mono (by lia)) rfl (pA (pv 0) (pA (be T.len (pA (pv 4) pC)) pC))) (fun _ _=>rfl))) (pE (aN (pO aT (ac ab (hr.mono (by lia)) rfl (pA (pv 0) (pA pH pC))) pH (pP _)) (pE (ak (ac aP (hr.mono (by lia)) rfl (pA (pv 0) (pA (ac af (hr.mono (by lia)) rfl (pA (pv 0) (pA (ag (pA pD (pA pD (pA (pM hu (pv 5) pD (fun _ _=>rfl)) pC)))) pC))) (pA (az (pA pD (pA (pM hu (pv 5) pD (fun _ _=>rfl)) pC))) pC))))) (pI (pN (i:=6) nd rfl (Or.inl rfl) (az (pA pD (pA (pM hu (pv 5) pD (fun _ _=>rfl)) (pA (ac bI (hr.mono (by lia)) rfl (pA (pv 0) (pA (pv 1) (pA (pv 2) (pA (pv 3) (pA pH (pA (be T.len (pA (pM hu (pv 5) pD (fun _ _=>rfl)) pC)) pC))))))) pC))))))) (pE (pN (i:=7) nd rfl (Or.inl rfl) (ac ab (hr.mono (by lia)) rfl (pA (pv 0) (pA (be T.len (pA (pM hu (pv 5) pD (fun _ _=>rfl)) pC)) pC)))) (pE (ak (ac aP (hr.mono (by lia)) rfl (pA (pv 0) (pA (ac af (hr.mono (by lia)) rfl (pA (pv 0) (pA (ag (pA pD (pA pD (pA (pM hu (pv 5) pD (fun _ _=>rfl)) pC)))) pC))) (pA (az (pA pD (pA (pM hu (pv 5) pD (fun _ _=>rfl)) pC))) pC))))) (pE (ak (ac aP (hr.mono (by lia)) rfl (pA (pv 0) (pA (ac af (hr.mono (by lia)) rfl (pA (pv 0) (pA (ag (pA (am aG (pM hu (pv 5) pD (fun _ _=>rfl)) (pv 7) (fun _ _=>rfl)) pC)) pC))) (pA (az (pA pD (pA (pM hu (pv 5) pD (fun _ _=>rfl)) (pA (pv 7) pC)))) pC))))) (pI (pN (i:=6) nd rfl (Or.inl rfl) (aC cO (az (pA pD (pA (pM hu (pv 5) pD (fun _ _=>rfl)) (pA (pv 7) pC)))) (ac bI (hr.mono (by lia)) rfl (pA (pv 0) (pA (pv 1) (pA (pv 2) (pA (pv 3) (pA pH (pA pH pC)))))))))))))) h3))),?_⟩;dsimp only[bC,bH,bG];refine a7 fun DA C3=>?_;refine⟨_,rfl,C,N,skv,"record",rfl,pre.x,fun W H1 s1 hW hW1=>?_⟩;refine C3 _ _ (a7 fun BE wn=>?_);have pre1:=pre.same s1;have hlen:0<(dZ C "record").length:=List.length_pos_iff.mpr hne;refine⟨_,rfl,_,rfl,_,rfl,W,_,rfl,.inl (SqL.of hW1),C,N,skv,_,rfl,pre1.x,(by lia),by rw[lMp];lia,fun r H2 r0 r1 kp2 x2=>?_⟩;have pre2:=pre1.keep kp2 x2;have hW2:=pre1.x.kL kp2 hW1 (pre.x.new hW);obtain⟨j,rfl⟩:=Int.eq_ofNat_of_zero_le r0;rw[lMp] at r1;have hj:j<(dZ C "record").length:=(by lia);obtain⟨y,hy⟩:∃ y,(dZ C "record")[j]?=some y:=⟨_,gEE hj⟩;obtain⟨hyf,hys⟩:=mQ y (mGE hy);refine⟨W,_,_,.ref y.1,rfl,rfl,SqL.of hW2,pJ (by rw[gEM,hy];rfl),?_⟩;refine wn _ _ (a7 fun Dx zQ=>?_);refine⟨_,rfl,C,_,skv,2,rfl,x2,(by lia),by decide,fun r3 H3 r30 r31 kp3 x3=>?_⟩;have pre3:=pre2.keep kp3 x3;have rH:ae C.A H H3:=(ae.of s1).trans (kp2.trans kp3);obtain⟨fn3,fm3,fi3,hi3,hi4,hi0⟩:=pre3.x.form hyf;have hmul:y.2.inn.length*cst dp≤4*cst dp:=Nat.mul_le_mul_right _ hi4;refine⟨rfl,_,rfl,?_⟩;split
   · -- new
     refine a7 fun Dt BW=>?_;refine⟨_,rfl,_,rfl,_,rfl,y.1,_,rfl,fn3,eB,fun M hM=>?_⟩;have k4:=smu (o:=HO.lst [V.str "(",V.str "new",V.str y.2.name]) hM;refine⟨C,_,skv,M,["(","new",y.2.name],3,rfl,rfl,x3.same k4,pG,x3.new hM,(by lia),fun i4 H4 kp4 x4=>?_⟩;have kp4':=(ae.of k4).trans kp4;have pre4:=pre3.keep kp4' x4;refine⟨_,rfl,y.1,_,rfl,(x4.form hyf).2.1,gl,fun t ht=>?_⟩;have k5:=smu (o:=HO.tup [V.str "record",V.int y.2.number]) ht;refine⟨C,_,skv,_,_,rfl,x4.same k5,(by lia),fun H5 kp5 x5=>?_⟩;refine BW _ _ ?_;have kp5':=(ae.of k5).trans kp5;have pre5:=pre4.keep kp5' x5;obtain⟨_,fm5,fi5,hi5,_,_⟩:=x5.form hyf;refine⟨_,rfl,y.1,_,rfl,fm5,_,rfl,_,rfl,_,rfl,_,rfl,_,rfl,y.1,_,rfl,fi5,y.2.inner,_,rfl,.inl (SqL.of hi5),C,_,skv,pa,path,S,sn,dp,_,_,y.2.inn.length,rfl,rfl,by rw[lMp],pre5,hdp,(by lia),by lia,fun v ds H6 skv6 kp6 x6 tv hl hok gr=>?_⟩;refine⟨eB,fun u hu'=>?_⟩;refine zQ _ _ ?_;have k7:=smu (o:=HO.tup [V.str "new",V.int y.2.number,v]) hu';obtain⟨ok,ek⟩:=OkE.many (n:=dp+1) (h:="new") (s:="place") (p:=.int y.2.number) (ds:=ds) (by decide +kernel) (by decide +kernel) (by decide +kernel) (ji (by decide +kernel)) (by decide +kernel) rfl rfl (by lia) hok;exact q3 _ _ skv6 _ _ _ _ _ (rH.trans (kp4'.trans (kp5'.trans (kp6.trans (ae.of k7))))) (x6.same k7) (by lia) (.tup (SqT.of pG) (.cons (.str _) (.cons (.int _) (.cons (tv.same k7) .nil)))) ok (bm.node ek gr)
   · -- get
     refine a7 fun By wb=>?_;have hpos:=hi0 hys;refine⟨_,rfl,_,rfl,y.1,_,rfl,fi3,y.2.inner,_,rfl,.inl (SqL.of hi3),C,_,skv,_,rfl,x3,(by lia),by rw[lMp];lia,fun r4 H4 r40 r41 kp4 x4=>?_⟩;refine wb _ _ (a7 fun Dk BN=>?_);have pre4:=pre3.keep kp4 x4;obtain⟨j4,rfl⟩:=Int.eq_ofNat_of_zero_le r40;rw[lMp] at r41;have hj4:j4<y.2.inn.length:=(by lia);refine⟨_,rfl,_,rfl,_,rfl,y.1,_,rfl,(x4.form hyf).1,eB,fun M hM=>?_⟩;have k5:=smu (o:=HO.lst [V.str "(",V.str "get",V.str y.2.name]) hM;refine⟨C,_,skv,M,["(","get",y.2.name],3,rfl,rfl,x4.same k5,pG,x4.new hM,(by lia),fun i5 H5 kp5 x5=>?_⟩;have kp5':=(ae.of k5).trans kp5;have pre5:=pre4.keep kp5' x5;refine⟨_,rfl,y.1,_,rfl,(x5.form hyf).2.1,gl,fun t ht=>?_⟩;have k6:=smu (o:=HO.tup [V.str "record",V.int y.2.number]) ht;refine⟨C,_,skv,_,_,rfl,x5.same k6,(by lia),fun H6 kp6 x6=>?_⟩;refine BN _ _ (a7 fun Di BL=>?_);have kp6':=(ae.of k6).trans kp6;have pre6:=pre5.keep kp6' x6;obtain⟨_,fm6,fi6,hi6,_,_⟩:=x6.form hyf;refine⟨_,rfl,_,rfl,_,rfl,y.1,_,rfl,fi6,_,rfl,y.2.inner,_,_,.str y.2.inn[j4],rfl,rfl,SqL.of hi6,pJ (by rw[gEM,gEE hj4];rfl),eC,fun M2 hM2=>?_⟩;have k7:=smu (o:=HO.lst [V.str y.2.inn[j4]]) hM2;refine⟨C,_,skv,M2,[y.2.inn[j4]],1,rfl,rfl,x6.same k7,pG,x6.new hM2,(by lia),fun i7 H7 kp7 x7=>?_⟩;have kp7':=(ae.of k7).trans kp7;have pre7:=pre6.keep kp7' x7;refine⟨_,rfl,y.1,_,rfl,(x7.form hyf).2.1,_,rfl,eB,fun t8 ht8=>?_⟩;have k8:=smu (o:=HO.tup [V.str "field",V.int y.2.number,V.int ((j4:Nat):Int)]) ht8;refine⟨C,_,skv,_,_,rfl,x7.same k8,(by lia),fun H8 kp8 x8=>?_⟩;refine BL _ _ ?_;have kp8':=(ae.of k8).trans kp8;have pre8:=pre7.keep kp8' x8;refine⟨_,rfl,y.1,_,rfl,(x8.form hyf).2.1,_,rfl,eB,fun t9 ht9=>?_⟩;have k9:=smu (o:=HO.tup [V.str "get",V.int y.2.number,V.int ((j4:Nat):Int)]) ht9;have td9:TD K (upd H8 t9 (.tup [V.str "get",V.int y.2.number,V.int ((j4:Nat):Int)])) (.ref t9) (.tuple [.str "get",.int y.2.number,.int ((j4:Nat):Int)]):=.tup (SqT.of pG) (.cons (.str _) (.cons (.int _) (.cons (.int _) .nil)));generalize upd H8 t9 (.tup [V.str "get",V.int y.2.number,V.int ((j4:Nat):Int)])=H9 at k9 td9 ⊢;have pre9:=pre8.same k9;refine⟨_,rfl,_,rfl,_,rfl,_,rfl,C,_,skv,pa,path,S,sn,dp,_,_,1,rfl,rfl,rfl,pre9,hdp,by decide,by lia,fun v ds H10 skv10 kp10 x10 tv hl hok gr=>?_⟩;obtain⟨d,rfl⟩:=eo hl;obtain⟨av,xv,rfl,_,_⟩:=tv.tup_of;refine dz (td9.tk (pre9.x.tk kp10)) tv (by simp) fun p11 H11 k11 t11=>?_;refine zQ _ _ ?_;have okd:=hok d mCS;obtain⟨ok,ek⟩:=OkE.make (n:=dp+1) (h:="get") (sl:=["place","place","one"]) (ps:=[.int y.2.number,.int ((j4:Nat):Int),d]) (ks:=[d]) (by decide +kernel) (by decide +kernel) (.cons (ji (by decide +kernel)) (.cons (ji (by decide +kernel)) (.cons iy .nil))) rfl (tK rfl rfl okd.lay) (tK (Nat.zero_le _) (Nat.zero_le _) okd.dep1) (by show 1≤8;decide) (ox okd);exact q3 _ _ skv10 _ _ _ _ _ (rH.trans (kp4.trans (kp5'.trans (kp6'.trans (kp7'.trans (kp8'.trans ((ae.of k9).trans (kp10.trans (ae.of k11))))))))) (x10.same k11) (by lia) t11 ok (bm.node ek gr)
end
def lF:Stmt→List Stmt
  | .If _ _ o _=>o
  | _=>[]
def w6:Stmt→List Stmt
  | .If _ b _ _=>b
  | _=>[]
abbrev p0:Stmt:=.Pass ⟨0,0,0,0⟩
theorem sQ:∀ z∈nms,(PyData.str z).canLay0=true:=by decide +kernel
section
variable {P:Program} {w:World} {K:Fg} {mg:SOV} {base:Heap}
abbrev sNa:Stmt:=top 32
abbrev nNa:List Str:=["_law_state","_law_path","_law_seen_here","_law_deep","_law_way","_law_found","_law_local","_law_e","_law_some_here","_law_form_here","_law_name_here"]
theorem yd:ax nNa jn (a9 sNa):=fsM
theorem ze {n:Nat} (D:Def K mg "_law_named" sNa) (T:Blt mg) (ab:Fn P w K mg base "_law_pick" 2 ["_law_state","_law_many"] (fj P w K)) (af:Fn P w K mg base "_law_lay" 1 ["_law_state","_law_words"] (fk P w K)) (aP:Fn P w K mg base "_law_tell" 1 ["_law_state","_law_at","_law_thing"] (iO P w K)) (bT:Fn P w K mg base "_law_name" 3 ["_law_state"] (mm P w K)) (cx:Fn P w K mg base "_law_seen" 1 ["_law_state","_law_seen_here","_law_is_set"] (ml P w K)) (bc:Fn P w K mg base "_law_choices" 2 ["_law_state","_law_sort"] (mr P w K)) (bI:Fn P w K mg base "_law_some" (5*n+6) nF (oS P w K n)) (jO:Fn P w K mg base "_law_record" (5*n+7) dG (xB P w K n)):Fn P w K mg base "_law_named" (5*n+8) jn (nA P w K (fun _=>True) n):=by
 refine D.fn yd (fun vs H Q E h=>?_) (fun _ _ _ _ _ _ us hl=>by obtain⟨a,b,c,d,e,rfl⟩:=sV hl;rfl) (fun f cdv A outer s' H vs Q E hr h=>?_)
 · obtain⟨C,N,skv,pa,path,S,sn,dp,z,y,rfl,_⟩:=h;rfl
 · obtain⟨C,N,skv,pa,path,S,sn,dp,z,y,rfl,rfl,_,pre,hdp,hN,q⟩:=h;have nd:=yd.nd;have hu:=bS hr;have hz0:(1000000:Nat)<sizeLine:=by decide
   have hc:=dw dp;have hsl:=pre.sl;obtain⟨t3,h3,q3⟩:∃ t,PSs (cE CX0 P w K mg base nNa "_law_named" (a9 sNa) f cdv A outer s' H E).nox ((aQ sNa).drop 2) t ∧
    ∀ (H1:Hp) (N1:Nat) (skv1:NKV) (v:V) (d:PyData) (x5 x6 x8 x9 x10:Option V),ae C.A H H1→SX P w K H1 C N1 skv1→N1+1≤N+8*cst dp+36→TD K H1 v d→OkE sn (dp+2) d→bm C.fn path (AtP d) skv skv1→t {nx:=fun _ H'=>Q .non H',rt:=Q} [some (.ref C.A.s),some (.ref pa),some (.ref S),some (.int ((dp+1:Nat):Int)),some (.int y),x5,x6,some v,x8,x9,x10] H1:=by
    refine⟨_,(pE (ak (ac af (hr.mono (by lia)) rfl (pA (pv 0) (pA (ag (pA pD pC)) pC)))) (pI (au (pv 7)))),fun H1 N1 skv1 v d x5 x6 x8 x9 x10 kp x hN1 td ok gr=>?_⟩;refine a7 fun DI Ca=>?_;refine⟨_,rfl,eC,fun M hM=>?_⟩;have k2:=smu (o:=HO.lst [V.str ")"]) hM;refine⟨C,_,skv1,M,[")"],1,rfl,rfl,x.same k2,pG,x.new hM,(by lia),fun i3 H3 kp3 x3=>?_⟩;refine Ca _ _ ?_;have kp3':=(ae.of k2).trans kp3;exact⟨_,rfl,q v d H3 skv1 (kp.trans kp3') (x3.more hN1) (td.tk (x.tk kp3')) ok gr⟩
   obtain⟨t4,h4,q4⟩:∃ t,PSs (cE CX0 P w K mg base nNa "_law_named" (a9 sNa) f cdv A outer s' H E).nox (lF ((lF ((lF ((aQ sNa).getD 1 p0)).getD 0 p0)).getD 0 p0)) t ∧
    ∀ (DD:dY) (H1:Hp) (x5 x6 x7 x8 x9 x10:Option V),aj H H1→(∀ σ' H',t3 {nx:=fun _ H'=>Q .non H',rt:=Q} σ' H'→DD.nx σ' H')→t DD [some (.ref C.A.s),some (.ref pa),some (.ref S),some (.int ((dp+1:Nat):Int)),some (.int y),x5,x6,x7,x8,x9,x10] H1:=by
    refine⟨_,(pE (pN (i:=10) nd rfl (Or.inl rfl) (ac bT (hr.mono (by lia)) rfl (pA (pv 0) pC))) (pE (ak (ac af (hr.mono (by lia)) rfl (pA (pv 0) (pA (ag (pA pD (pA pD (pA (pv 10) pC)))) pC)))) (pI (pN (i:=7) nd rfl (Or.inl rfl) (az (pA pD (pA (pv 10) pC))))))),fun DD H1 x5 x6 x7 x8 x9 x10 s1 hD=>?_⟩;refine a7 fun DE C6=>?_;have pre1:=pre.same s1;refine⟨_,rfl,C,_,skv,rfl,pre1.x,(by lia),fun z H2 hz kp2 x2=>?_⟩;refine C6 _ _ (a7 fun DC C5=>?_);refine⟨_,rfl,_,rfl,eB,fun M hM=>?_⟩;have k3:=smu (o:=HO.lst [V.str "(",V.str "fault",V.str z]) hM;refine⟨C,_,skv,M,["(","fault",z],3,rfl,rfl,x2.same k3,pG,x2.new hM,(by lia),fun i3 H3 kp3 x3=>?_⟩;refine C5 _ _ ?_;refine⟨_,rfl,gl,fun u hu'=>?_⟩;have k4:=smu (o:=HO.tup [V.str "fault",V.str z]) hu';exact hD _ _ (q3 _ _ skv _ _ _ _ _ _ _ ((ae.of s1).trans (kp2.trans ((ae.of k3).trans (kp3.trans (ae.of k4))))) (x3.same k4) (by lia) (.tup (SqT.of pG) (.cons (.str _) (.cons (.str _) .nil))) (OkE.leaf (s:="word") (by decide +kernel) (by decide +kernel) (by decide +kernel) (xP (by decide +kernel)) (by decide +kernel) (sQ z hz) rfl _) (bm.refl _ _ _ _))
   refine⟨_,(pE (pN (i:=5) nd rfl (Or.inl rfl) (ac cx (hr.mono (by lia)) rfl (pA (pv 0) (pA (pv 2) (pA fC pC))))) (pE (aN (PW.pt (b6 (pO aT (pv 4) pH (pP _)) (bh (pO (fV hu) (pv 5) (ag pC) (pP _))))) (pE (pN (i:=6) nd rfl (Or.inl rfl) (am aG (pv 5) (ac ab (hr.mono (by lia)) rfl (pA (pv 0) (pA (be T.len (pA (pv 5) pC)) pC))) (fun _ _=>rfl))) (pE (ak (ac aP (hr.mono (by lia)) rfl (pA (pv 0) (pA (ac af (hr.mono (by lia)) rfl (pA (pv 0) (pA (ag (pA pD (pA pD (pA (am aB (pv 6) pH (fun _ _=>rfl)) pC)))) pC))) (pA (az (pA pD (pA (pM hu (pv 0) pD (fun _ _=>rfl)) (pA (am aB (pv 6) pH (fun _ _=>rfl)) pC)))) pC))))) (pI (pN (i:=7) nd rfl (Or.inl rfl) (aC cO (az (pA pD (pA (am aB (pv 6) pH (fun _ _=>rfl)) pC))) (ac bI (hr.mono (by lia)) rfl (pA (pv 0) (pA (pv 1) (pA (pv 2) (pA (pv 3) (pA pH (pA pH pC)))))))))))) (pI (aN (PW.pt (b6 (pO aT (pv 4) pH (pP _)) (bh (pO (fV hu) (ac bc (hr.mono (by lia)) rfl (pA (pv 0) (pA pD pC))) (ag pC) (pP _))))) (pI (au (ac jO (hr.mono (by lia)) rfl (pA (pv 0) (pA (pv 1) (pA (pv 2) (pA (pv 3) pC))))))) (pI (aN (PW.pt (b6 (pO aT (pv 4) pH (pP _)) (bh (pO (fV hu) (ac bc (hr.mono (by lia)) rfl (pA (pv 0) (pA pD pC))) (ag pC) (pP _))))) (pE (pN (i:=8) nd rfl (Or.inl rfl) (ac bc (hr.mono (by lia)) rfl (pA (pv 0) (pA pD pC)))) (pE (pN (i:=9) nd rfl (Or.inl rfl) (am aG (pv 8) (ac ab (hr.mono (by lia)) rfl (pA (pv 0) (pA (be T.len (pA (pv 8) pC)) pC))) (fun _ _=>rfl))) (pE (ak (ac aP (hr.mono (by lia)) rfl (pA (pv 0) (pA (ac af (hr.mono (by lia)) rfl (pA (pv 0) (pA (ag (pA pD (pA (pM hu (pv 9) pD (fun _ _=>rfl)) pC))) pC))) (pA (az (pA pD (pA (pM hu (pv 9) pD (fun _ _=>rfl)) pC))) pC))))) (pI (pN (i:=7) nd rfl (Or.inl rfl) (az (pA pD (pA (pM hu (pv 9) pD (fun _ _=>rfl)) (pA (ac bI (hr.mono (by lia)) rfl (pA (pv 0) (pA (pv 1) (pA (pv 2) (pA (pv 3) (pA pH (pA (be T.len (pA (pM hu (pv 9) pD (fun _ _=>rfl)) pC)) pC))))))) pC))))))))) h4))))) h3)),?_⟩;dsimp only[bC,bH,bG];refine a7 fun BC wj=>?_;refine⟨_,rfl,_,rfl,C,N,skv,S,sn,true,rfl,pre.x,pre.se,(by lia),fun W zs ts H1 s1 hW hW1 ht htl hmem=>?_⟩;refine wj _ _ ?_;have pre1:=pre.same s1;have htl':=ht.length;rw[lMp] at htl';refine⟨_,rfl,rfl,_,rfl,?_⟩;by_cases h5:y=5
   · subst h5;refine pL (by decide) ⟨_,rfl,f9,fun e0 he=>?_⟩;have k2:=smu (o:=HO.lst []) he;refine⟨W,e0,zs,rfl,rfl,SqL.of (k2 _ _ hW1),SqL.of pG,_,rfl,?_⟩;have hW2:=k2 _ _ hW1;have ht2:=ht.same k2;generalize upd H1 e0 (.lst [])=H2 at k2 hW2 ht2 ⊢;have pre2:=pre1.same k2;cases hzs:zs with
     | nil =>
      refine aU ?_;refine⟨_,rfl,rfl,_,rfl,aU (aU ⟨_,rfl,rfl,_,rfl,aU (aU ?_)⟩)⟩;exact q4 _ H2 _ _ _ _ _ _ (s1.trans k2) fun σ' H' z=>z
     | cons z0 zr =>
      have hzl:0<zs.length:=by rw[hzs];exact Nat.succ_pos _
      refine bj ?_;refine a7 fun Dr BU=>?_;refine⟨_,rfl,_,rfl,_,rfl,W,_,rfl,.inl (SqL.of hW2),C,N,skv,_,rfl,pre2.x,(by lia),(by lia),fun r H3 r0 r1 kp3 x3=>?_⟩;have pre3:=pre2.keep kp3 x3;have hW3:=pre2.x.kL kp3 hW2 (pre.x.new hW);have ht3:=ht2.tk (pre2.x.tk kp3);obtain⟨j,rfl⟩:=Int.eq_ofNat_of_zero_le r0;have hj:j<zs.length:=(by lia);have hzj:zs[j]?=some zs[j]:=gEE hj;obtain⟨d0,hd0,td0⟩:=ht3.get hzj;rw[gEM] at hd0;obtain⟨t0,ht0,rfl⟩:=oMS.mp hd0;obtain⟨a,ea,ha⟩:=dD td0;rw[ea] at td0;refine⟨W,_,_,.ref a,rfl,rfl,SqL.of hW3,pJ (by rw[hzj,ea]),?_⟩;refine BU _ _ (a7 fun Dj BM=>?_);refine⟨_,rfl,_,rfl,_,rfl,a,_,0,_,rfl,rfl,ha,pJ (j:=0) rfl,eB,fun M hM=>?_⟩;have k4:=smu (o:=HO.lst [V.str "(",V.str "set",V.str t0.1]) hM;refine⟨C,_,skv,M,["(","set",t0.1],3,rfl,rfl,x3.same k4,pG,x3.new hM,(by lia),fun i4 H4 kp4 x4=>?_⟩;have kp4':=(ae.of k4).trans kp4;have pre4:=pre3.keep kp4' x4;have td4:=td0.tk (x3.tk kp4');obtain⟨a',e,ha4⟩:=dD td4;cases e;refine⟨_,rfl,C.A.s,_,rfl,x4.rd.2.1,_,rfl,a,_,1,_,rfl,rfl,ha4,pJ (j:=1) rfl,eB,fun t ht'=>?_⟩;have k5:=smu (o:=HO.tup [V.str "local",V.int ((C.fn:Nat):Int),V.int t0.2.1]) ht';refine⟨C,_,skv,_,_,rfl,x4.same k5,(by lia),fun H5 kp5 x5=>?_⟩;refine BM _ _ ?_;have kp5':=(ae.of k5).trans kp5;have pre5:=pre4.keep kp5' x5;obtain⟨a',e,ha5⟩:=dD (td4.tk (x4.tk kp5'));cases e;refine⟨_,rfl,a,_,1,_,rfl,rfl,ha5,pJ (j:=1) rfl,gl,fun t9 ht9=>?_⟩;have k9:=smu (o:=HO.tup [V.str "set",V.int t0.2.1]) ht9;have td9:TD K (upd H5 t9 (.tup [V.str "set",V.int t0.2.1])) (.ref t9) (.tuple [.str "set",.int t0.2.1]):=.tup (SqT.of pG) (.cons (.str _) (.cons (.int _) .nil));generalize upd H5 t9 (.tup [V.str "set",V.int t0.2.1])=H9 at k9 td9 ⊢;have pre9:=pre5.same k9;refine⟨_,rfl,_,rfl,_,rfl,_,rfl,C,_,skv,pa,path,S,sn,dp,_,_,1,rfl,rfl,rfl,pre9,hdp,by decide,by lia,fun v ds H10 skv10 kp10 x10 tv hl hok gr=>?_⟩;obtain⟨d,rfl⟩:=eo hl;obtain⟨av,xv,rfl,_,_⟩:=tv.tup_of;refine dz (td9.tk (pre9.x.tk kp10)) tv (by simp) fun p11 H11 k11 t11=>?_;have okd:=hok d mCS;obtain⟨ok,ek⟩:=OkE.makeM (n:=dp+1) (h:="set") (sl:=["meant","one"]) (ps:=[.int t0.2.1,d]) (ks:=[d]) (by decide +kernel) (by decide +kernel) (.cons (ji (by decide +kernel)) (.cons iy .nil)) rfl (iD rfl okd.lay) (iD (Nat.zero_le _) okd.dep1) (by show 1≤8;decide) (ox okd) (fun i z=>by cases (show some (PyData.int t0.2.1)=some (.int i) from z);exact hmem t0 (mGE ht0));exact q3 _ _ skv10 _ _ _ _ _ _ _ ((ae.of (s1.trans k2)).trans (kp3.trans (kp4'.trans (kp5'.trans ((ae.of k9).trans (kp10.trans (ae.of k11))))))) (x10.same k11) (by lia) t11 ok (bm.node ek gr)
   · refine pK (by simp[h5]) (aU ?_);refine⟨_,rfl,rfl,_,rfl,?_⟩;by_cases h6:y=6
     · subst h6;refine pL (by decide) ⟨_,rfl,C,_,skv,"record",rfl,pre1.x,fun W2 H2 s2 hW2 hW2'=>?_⟩;refine⟨f9,fun e0 he=>?_⟩;have k3:=smu (o:=HO.lst []) he;refine⟨W2,e0,_,rfl,rfl,SqL.of (k3 _ _ hW2'),SqL.of pG,_,rfl,?_⟩;generalize upd H2 e0 (.lst [])=H3 at k3 ⊢;have s3:=s2.trans k3;cases hch:dZ C "record" with
       | nil =>
        refine aU ?_;refine⟨_,rfl,rfl,_,rfl,aU (aU ?_)⟩;exact q4 _ H3 _ _ _ _ _ _ (s1.trans s3) fun σ' H' z=>z
       | cons z0 zr =>
        refine bj ?_;exact⟨_,rfl,_,rfl,_,rfl,_,rfl,C,N,skv,pa,path,S,sn,dp,_,rfl,rfl,pre1.same s3,hdp,hN,by rw[hch];exact List.cons_ne_nil _ _,fun v d H' skv' kp x td ok gr=>q v d H' skv' ((ae.of (s1.trans s3)).trans kp) x td ok gr⟩
     · refine pK (by simp[h6]) (aU ?_);refine⟨_,rfl,rfl,_,rfl,?_⟩;by_cases h7:y=7
       · subst h7;refine pL (by decide) ⟨_,rfl,C,_,skv,"function",rfl,pre1.x,fun W2 H2 s2 hW2 hW2'=>?_⟩;refine⟨f9,fun e0 he=>?_⟩;have k3:=smu (o:=HO.lst []) he;refine⟨W2,e0,_,rfl,rfl,SqL.of (k3 _ _ hW2'),SqL.of pG,_,rfl,?_⟩;generalize upd H2 e0 (.lst [])=H3 at k3 ⊢;have s3:=s2.trans k3;cases hch:dZ C "function" with
         | nil =>
          refine aU ?_;exact q4 _ H3 _ _ _ _ _ _ (s1.trans s3) fun σ' H' z=>z
         | cons z0 zr =>
          refine bj ?_;refine a7 fun CZ Aa=>?_;have pre3:=pre1.same s3;refine⟨_,rfl,C,_,skv,"function",rfl,pre3.x,fun W4 H4 s4 hW4 hW4'=>?_⟩;refine Aa _ _ (a7 fun zL qC=>?_);have pre4:=pre3.same s4;have hlen:0<(dZ C "function").length:=by rw[hch];exact Nat.succ_pos _
          refine⟨_,rfl,_,rfl,_,rfl,W4,_,rfl,.inl (SqL.of hW4'),C,N,skv,_,rfl,pre4.x,(by lia),by rw[lMp];lia,fun r H5 r0 r1 kp5 x5=>?_⟩;have pre5:=pre4.keep kp5 x5;have hW5:=pre4.x.kL kp5 hW4' (pre3.x.new hW4);obtain⟨j,rfl⟩:=Int.eq_ofNat_of_zero_le r0;rw[lMp] at r1;have hj:j<(dZ C "function").length:=(by lia);obtain⟨y,hy⟩:∃ y,(dZ C "function")[j]?=some y:=⟨_,gEE hj⟩;obtain⟨hyf,hys⟩:=mQ y (mGE hy);refine⟨W4,_,_,.ref y.1,rfl,rfl,SqL.of hW5,pJ (by rw[gEM,hy];rfl),?_⟩;refine qC _ _ (a7 fun CW A8=>?_);obtain⟨fn5,fm5,fi5,hi5,hi4,hi0⟩:=pre5.x.form hyf;have hmul:y.2.inn.length*cst dp≤4*cst dp:=Nat.mul_le_mul_right _ hi4;refine⟨_,rfl,_,rfl,_,rfl,y.1,_,rfl,fn5,gl,fun M hM=>?_⟩;have k6:=smu (o:=HO.lst [V.str "(",V.str y.2.name]) hM;refine⟨C,_,skv,M,["(",y.2.name],2,rfl,rfl,x5.same k6,pG,x5.new hM,(by lia),fun i6 H6 kp6 x6=>?_⟩;have kp6':=(ae.of k6).trans kp6;have pre6:=pre5.keep kp6' x6;refine⟨_,rfl,y.1,_,rfl,(x6.form hyf).2.1,gl,fun t ht=>?_⟩;have k7:=smu (o:=HO.tup [V.str "function",V.int y.2.number]) ht;refine⟨C,_,skv,_,_,rfl,x6.same k7,(by lia),fun H7 kp7 x7=>?_⟩;refine A8 _ _ ?_;have kp7':=(ae.of k7).trans kp7;have pre7:=pre6.keep kp7' x7;obtain⟨_,fm7,fi7,hi7,_,_⟩:=x7.form hyf;refine⟨_,rfl,y.1,_,rfl,fm7,_,rfl,_,rfl,_,rfl,_,rfl,_,rfl,y.1,_,rfl,fi7,y.2.inner,_,rfl,.inl (SqL.of hi7),C,_,skv,pa,path,S,sn,dp,_,_,y.2.inn.length,rfl,rfl,by rw[lMp],pre7,hdp,(by lia),by lia,fun v ds H8 skv8 kp8 x8 tv hl hok gr=>?_⟩;refine⟨eB,fun u hu'=>?_⟩;have k9:=smu (o:=HO.tup [V.str "call",V.int y.2.number,v]) hu';obtain⟨ok,ek⟩:=OkE.many (n:=dp+1) (h:="call") (s:="place") (p:=.int y.2.number) (ds:=ds) (by decide +kernel) (by decide +kernel) (by decide +kernel) (ji (by decide +kernel)) (by decide +kernel) rfl rfl (by lia) hok;exact q3 _ _ skv8 _ _ _ _ _ _ _ ((ae.of (s1.trans (s3.trans s4))).trans (kp5.trans (kp6'.trans (kp7'.trans (kp8.trans (ae.of k9)))))) (x8.same k9) (by lia) (.tup (SqT.of pG) (.cons (.str _) (.cons (.int _) (.cons (tv.same k9) .nil)))) ok (bm.node ek gr)
       · refine pK (by simp[h7]) (aU ?_);exact q4 _ H1 _ _ _ _ _ _ s1 fun σ' H' z=>z
end
def fg:List Str:=["add","sub","mul","div","less","same","at"]
def w9:List Str:=["if","while","say"]
def Wok (z:Str) (many:Nat):Prop:=(z="do"∨z="if"∧many=3∨z="while"∧many=2∨z="say"∧many=1∨(z≠"do"∧bN z w9=false∧(PyData.str z).canLay0=true))∧many≤8
theorem rM:∀ z∈fg,z≠"do"∧bN z w9=false∧(PyData.str z).canLay0=true:=by decide +kernel
section
variable {P:Program} {w:World} {K:Fg} {mg:SOV} {base:Heap}
abbrev sPl:Stmt:=top 34
abbrev nPl:List Str:=["_law_state","_law_path","_law_seen_here","_law_deep","_law_way","_law_twos","_law_word","_law_many","_law_children"]
theorem y9:ax nPl jn (a9 sPl):=fsM
theorem yZ {n:Nat} (D:Def K mg "_law_plain" sPl) (T:Blt mg) (ab:Fn P w K mg base "_law_pick" 2 ["_law_state","_law_many"] (fj P w K)) (af:Fn P w K mg base "_law_lay" 1 ["_law_state","_law_words"] (fk P w K)) (bI:Fn P w K mg base "_law_some" (5*n+6) nF (oS P w K n)):Fn P w K mg base "_law_plain" (5*n+8) jn (nA P w K (fun y=>8≤y∧y<15) n):=by
 refine D.fn y9 (fun vs H Q E h=>?_) (fun _ _ _ _ _ _ us hl=>by obtain⟨a,b,c,d,e,rfl⟩:=sV hl;rfl) (fun f cdv A outer s' H vs Q E hr h=>?_)
 · obtain⟨C,N,skv,pa,path,S,sn,dp,z,y,rfl,_⟩:=h;rfl
 · obtain⟨C,N,skv,pa,path,S,sn,dp,z,y,rfl,rfl,⟨y8,y15⟩,pre,hdp,hN,q⟩:=h;have nd:=y9.nd;have hu:=bS hr;have hz0:(1000000:Nat)<sizeLine:=by decide
   have hc:=dw dp;obtain⟨t3,h3,q3⟩:∃ t,PSs (cE CX0 P w K mg base nPl "_law_plain" (a9 sPl) f cdv A outer s' H E).nox ((aQ sPl).drop 3) t ∧
    ∀ (H1:Hp) (z:Str) (many:Nat) (x5:Option V),ae C.A H H1→SX P w K H1 C (N+4) skv→Wok z many→t {nx:=fun _ H'=>Q .non H',rt:=Q} [some (.ref C.A.s),some (.ref pa),some (.ref S),some (.int ((dp+1:Nat):Int)),some (.int y),x5,some (.str z),some (.int ((many:Nat):Int)),none] H1:=by
    refine⟨_,(pE (ak (ac af (hr.mono (by lia)) rfl (pA (pv 0) (pA (ag (pA pD (pA (pv 6) pC))) pC)))) (pE (pN (i:=8) nd rfl (Or.inl rfl) (ac bI (hr.mono (by lia)) rfl (pA (pv 0) (pA (pv 1) (pA (pv 2) (pA (pv 3) (pA pH (pA (pv 7) pC)))))))) (pE (ak (ac af (hr.mono (by lia)) rfl (pA (pv 0) (pA (ag (pA pD pC)) pC)))) (pE (aN (pO aT (pv 6) pD (pP _)) (pI (au (az (pA pD (pA (pv 8) pC))))) aF) (pE (aN (pO cQ (pv 6) (az (pA pD (pA pD (pA pD pC)))) (by with_unfolding_all rfl)) (pI (au (aC cO (az (pA (pv 6) pC)) (pv 8)))) aF) (pI (au (az (pA pD (pA (pv 6) (pA (pv 8) pC))))))))))),fun H1 z many x5 kp1 x1 wok=>?_⟩;refine a7 fun DL Cd=>?_;obtain⟨wok,hm8⟩:=wok;have hmul:many*cst dp≤8*cst dp:=Nat.mul_le_mul_right _ hm8;refine⟨_,rfl,_,rfl,gl,fun M hM=>?_⟩;have k2:=smu (o:=HO.lst [V.str "(",V.str z]) hM;refine⟨C,_,skv,M,["(",z],2,rfl,rfl,x1.same k2,pG,x1.new hM,(by lia),fun i3 H3 kp3 x3=>?_⟩;refine Cd _ _ (a7 fun BF wo=>?_);have rH:=kp1.trans ((ae.of k2).trans kp3);have pre3:=pre.keep rH x3;refine⟨_,rfl,_,rfl,_,rfl,_,rfl,_,rfl,C,_,skv,pa,path,S,sn,dp,_,_,many,rfl,rfl,rfl,pre3,hdp,hm8,by lia,fun v ds H4 skv4 kp4 x4 tv hl hok gr=>?_⟩;refine wo _ _ (a7 fun DH C9=>?_);refine⟨_,rfl,eC,fun M5 hM5=>?_⟩;have k5:=smu (o:=HO.lst [V.str ")"]) hM5;refine⟨C,_,skv4,M5,[")"],1,rfl,rfl,x4.same k5,pG,x4.new hM5,by lia,fun i6 H6 kp6 x6=>?_⟩;refine C9 _ _ (a7 fun DF C7=>?_);have kp6':=(ae.of k5).trans kp6;have tv6:=tv.tk (x4.tk kp6');have oF:=rH.trans (kp4.trans kp6');refine⟨_,rfl,rfl,_,rfl,?_⟩;by_cases hdo:z="do"
    · subst hdo;refine pL (by simp) ⟨_,rfl,gl,fun u hu'=>?_⟩;have k7:=smu (o:=HO.tup [V.str "do",v]) hu';obtain⟨ok,ek⟩:=OkE.make (n:=dp+1) (h:="do") (sl:=["many"]) (ps:=[.tuple ds]) (ks:=ds) (by decide +kernel) (by decide +kernel) (.cons vj .nil) (List.append_nil ds) (ox (ef fun x hx=>(hok x hx).lay)) (ox (eh fun x hx=>(hok x hx).dep)) (by lia) hok;exact q _ _ _ skv4 (oF.trans (ae.of k7)) ((x6.same k7).more (by lia)) (.tup (SqT.of pG) (.cons (.str _) (.cons (tv6.same k7) .nil))) ok (bm.node ek gr)
    · refine pK (by simp[hdo]) ?_;refine C7 _ _ (a7 fun BC wj=>?_);refine⟨_,rfl,eB,fun t1 ht1=>?_⟩;have k7:=smu (o:=HO.tup (w9.map V.str)) ht1;refine⟨t1,w9.map V.str,rfl,.inr (SqT.of pG),rfl,ck _,_,rfl,?_⟩;rw[dh];have g1:upd H6 t1 (.tup [V.str "if",V.str "while",V.str "say"])=upd H6 t1 (.tup (w9.map V.str)):=rfl;rw[g1];generalize upd H6 t1 (.tup (w9.map V.str))=H7 at k7 ⊢;have x7:=x6.same k7;have tv7:=tv6.same k7;have De:=oF.trans (ae.of k7);cases b9:bN z w9 with
      | true =>
       refine bj ⟨_,rfl,eC,fun u hu'=>?_⟩;have k8:=smu (o:=HO.tup [V.str z]) hu';have td8:TD K (upd H7 u (.tup [V.str z])) (.ref u) (.tuple [.str z]):=.tup (SqT.of pG) (.cons (.str _) .nil);generalize upd H7 u (.tup [V.str z])=H8 at k8 td8 ⊢;obtain⟨av,xv,rfl,_,_⟩:=tv7.tup_of;refine⟨_,rfl,dz td8 (tv7.same k8) (by show 1+ds.length≤100000;lia) fun p9 H9 k9 t9=>?_⟩;have fin:OkE sn (dp+2) (.tuple (.str z::ds))∧ai (.tuple (.str z::ds))=ds:=by
        have sh1:∀ {d:PyData},Shp "one" d:=fun {d}=>iy
        rcases wok with e | ⟨rfl,rfl⟩ | ⟨rfl,rfl⟩ | ⟨rfl,rfl⟩ | ⟨_,e,_⟩
        · exact absurd e hdo
        · obtain⟨a,b,c,rfl⟩:=gs hl;exact OkE.make (n:=dp+1) (h:="if") (sl:=["one","one","one"]) (by decide +kernel) (by decide +kernel) (.cons sh1 (.cons sh1 (.cons sh1 .nil))) rfl (fun x hx=>(hok x hx).lay) (fun x hx=>(hok x hx).dep1) (by show 3≤8;decide) hok
        · obtain⟨a,b,rfl⟩:=fW hl;exact OkE.make (n:=dp+1) (h:="while") (sl:=["one","one"]) (by decide +kernel) (by decide +kernel) (.cons sh1 (.cons sh1 .nil)) rfl (fun x hx=>(hok x hx).lay) (fun x hx=>(hok x hx).dep1) (by show 2≤8;decide) hok
        · obtain⟨a,rfl⟩:=eo hl;exact OkE.make (n:=dp+1) (h:="say") (sl:=["one"]) (by decide +kernel) (by decide +kernel) (.cons sh1 .nil) rfl (fun x hx=>(hok x hx).lay) (fun x hx=>(hok x hx).dep1) (by show 1≤8;decide) hok
        · rw[b9] at e;cases e
       exact q _ _ _ skv4 (De.trans (ae.of (k8.trans k9))) ((x7.same (k8.trans k9)).more (by lia)) t9 fin.1 (bm.node fin.2 gr)
      | false =>
       refine aU ?_;refine wj _ _ ?_;have hlay:(PyData.str z).canLay0=true:=by
        rcases wok with e | ⟨e,_⟩ | ⟨e,_⟩ | ⟨e,_⟩ | ⟨_,_,e⟩
        · exact absurd e hdo
        · subst e;exact absurd b9 (by decide +kernel)
        · subst e;exact absurd b9 (by decide +kernel)
        · subst e;exact absurd b9 (by decide +kernel)
        · exact e
       refine⟨_,rfl,_,rfl,eB,fun u hu'=>?_⟩;have k8:=smu (o:=HO.tup [V.str "op",V.str z,v]) hu';obtain⟨ok,ek⟩:=OkE.many (n:=dp+1) (h:="op") (s:="op") (p:=.str z) (ds:=ds) (by decide +kernel) (by decide +kernel) (by decide +kernel) (xP (by decide +kernel)) (by decide +kernel) hlay rfl (by lia) hok;exact q _ _ _ skv4 (De.trans (ae.of k8)) ((x7.same k8).more (by lia)) (.tup (SqT.of pG) (.cons (.str _) (.cons (.str _) (.cons (tv7.same k8) .nil)))) ok (bm.node ek gr)
   obtain⟨j,hj⟩:=Int.eq_ofNat_of_zero_le (show 0≤y-8 by lia);have hj7:j<7:=by lia
   refine⟨_,(pE (pN (i:=5) nd rfl (Or.inl rfl) (ag (pA pD (pA pD (pA pD (pA pD (pA pD (pA pD (pA pD pC))))))))) (pE (pN (i:=6) nd rfl (Or.inl rfl) (am aG (ag (pA (am aG (pv 5) (ac ab (hr.mono (by lia)) rfl (pA (pv 0) (pA pH pC))) (fun _ _=>rfl)) (pA pD (pA pD (pA pD (pA (am aG (ag (pA pD (pA pD pC))) (ac ab (hr.mono (by lia)) rfl (pA (pv 0) (pA pH pC))) (fun _ _=>rfl)) (pA pD (pA pD pC)))))))) (aC bX (pv 4) pH) (fun _ _=>rfl))) (pE (pN (i:=7) nd rfl (Or.inl rfl) (am aG (ag (pA pH (pA (aC bY pH (ac ab (hr.mono (by lia)) rfl (pA (pv 0) (pA pH pC)))) (pA pH (pA pH (pA pH (pA pH (pA (am aG (ag (pA pH (pA pH (pA pH (pA pH (pA pH pC)))))) (ac ab (hr.mono (by lia)) rfl (pA (pv 0) (pA pH pC))) (fun _ _=>rfl)) pC)))))))) (aC bX (pv 4) pH) (fun _ _=>rfl))) h3))),?_⟩;dsimp only[bC,bH,bG];refine a7 fun Dh BK=>?_;refine⟨AJ,fun L hL=>?_⟩;refine BK _ _ (a7 fun zM qD=>?_);have k1:=smu (o:=HO.lst (fg.map V.str)) hL;have g1:upd H L (.lst [V.str "add",V.str "sub",V.str "mul",V.str "div",V.str "less",V.str "same",V.str "at"])=upd H L (.lst (fg.map V.str)):=rfl;rw[g1];have hL1:(upd H L (.lst (fg.map V.str))) L=some (.lst (fg.map V.str)):=pG;generalize upd H L (.lst (fg.map V.str))=H1 at k1 hL1 ⊢;have x1:=pre.x.same k1;refine⟨_,rfl,_,rfl,C,N,skv,7,rfl,x1,(by lia),by decide,fun r2 H2 r20 r21 kp2 x2=>?_⟩;obtain⟨j2,rfl⟩:=Int.eq_ofNat_of_zero_le r20;have hL2:=x1.kL kp2 hL1 (pre.x.new hL);have hj2:j2<fg.length:=by have:fg.length=7:=rfl;lia
   refine⟨L,_,_,.str fg[j2],rfl,rfl,SqL.of hL2,pJ (by rw[gEM,gEE hj2];rfl),?_⟩;refine⟨gl,fun M hM=>?_⟩;have k3:=smu (o:=HO.lst [V.str "not",V.str "size"]) hM;have hM3:(upd H2 M (.lst [V.str "not",V.str "size"])) M=some (.lst [V.str "not",V.str "size"]):=pG;have frM:=x2.new hM;generalize upd H2 M (.lst [V.str "not",V.str "size"])=H3 at k3 hM3 ⊢;have x3:=x2.same k3;refine⟨_,rfl,C,_,skv,2,rfl,x3,(by lia),by decide,fun r4 H4 r40 r41 kp4 x4=>?_⟩;obtain⟨j4,rfl⟩:=Int.eq_ofNat_of_zero_le r40;have hM4:=x3.kL kp4 hM3 frM;obtain⟨z4,hz4,hz4'⟩:∃ z:Str,([V.str "not",V.str "size"]:List V)[j4]?=some (.str z)∧(z≠"do"∧bN z w9=false∧(PyData.str z).canLay0=true):=by
    rcases (show j4=0∨j4=1 by lia) with rfl | rfl
    · exact⟨"not",rfl,by decide +kernel⟩
    · exact⟨"size",rfl,by decide +kernel⟩
   refine⟨M,_,_,.str z4,rfl,rfl,SqL.of hM4,pJ hz4,?_⟩;refine⟨AJ,fun O hO=>?_⟩;have k5:=smu (o:=HO.lst [V.str fg[j2],V.str "do",V.str "if",V.str "while",V.str z4,V.str "say",V.str "row"]) hO;have hO5:(upd H4 O (.lst [V.str fg[j2],V.str "do",V.str "if",V.str "while",V.str z4,V.str "say",V.str "row"])) O=some (.lst [V.str fg[j2],V.str "do",V.str "if",V.str "while",V.str z4,V.str "say",V.str "row"]):=pG;generalize upd H4 O (.lst [V.str fg[j2],V.str "do",V.str "if",V.str "while",V.str z4,V.str "say",V.str "row"])=H5 at k5 hO5 ⊢;have x5:=x4.same k5;obtain⟨z,hz⟩:∃ z:Str,([V.str fg[j2],V.str "do",V.str "if",V.str "while",V.str z4,V.str "say",V.str "row"]:List V)[j]?=some (.str z):=by
    rcases (show j=0∨j=1∨j=2∨j=3∨j=4∨j=5∨j=6 by lia) with rfl | rfl | rfl | rfl | rfl | rfl | rfl <;> exact⟨_,rfl⟩
   refine⟨_,rfl,_,_,rfl,rfl,O,_,_,.str z,rfl,rfl,SqL.of hO5,by rw[hj];exact pJ hz,?_⟩;refine qD _ _ (a7 fun D1 Ab=>?_);refine⟨_,rfl,C,_,skv,3,rfl,x5,(by lia),by decide,fun r6 H6 r60 r61 kp6 x6=>?_⟩;obtain⟨j6,rfl⟩:=Int.eq_ofNat_of_zero_le r60;refine⟨_,_,rfl,rfl,AV,fun U hU=>?_⟩;have k7:=smu (o:=HO.lst [V.int 0,V.int 1,V.int 2,V.int 3,V.int 8]) hU;have hU7:(upd H6 U (.lst [V.int 0,V.int 1,V.int 2,V.int 3,V.int 8])) U=some (.lst [V.int 0,V.int 1,V.int 2,V.int 3,V.int 8]):=pG;have frU:=x6.new hU;generalize upd H6 U (.lst [V.int 0,V.int 1,V.int 2,V.int 3,V.int 8])=H7 at k7 hU7 ⊢;have x7:=x6.same k7;refine⟨_,rfl,C,_,skv,5,rfl,x7,by lia,by decide,fun r8 H8 r80 r81 kp8 x8=>?_⟩;obtain⟨j8,rfl⟩:=Int.eq_ofNat_of_zero_le r80;have hU8:=x7.kL kp8 hU7 frU;obtain⟨c8,hc8,hc8'⟩:∃ c:Nat,([V.int 0,V.int 1,V.int 2,V.int 3,V.int 8]:List V)[j8]?=some (.int ((c:Nat):Int))∧c≤8:=by
    rcases (show j8=0∨j8=1∨j8=2∨j8=3∨j8=4 by lia) with rfl | rfl | rfl | rfl | rfl
    · exact⟨0,rfl,by decide⟩
    · exact⟨1,rfl,by decide⟩
    · exact⟨2,rfl,by decide⟩
    · exact⟨3,rfl,by decide⟩
    · exact⟨8,rfl,by decide⟩
   refine⟨U,_,_,.int ((c8:Nat):Int),rfl,rfl,SqL.of hU8,pJ hc8,?_⟩;refine⟨AJ,fun V9 hV9=>?_⟩;have k9:=smu (o:=HO.lst [V.int 2,V.int (1+((j6:Nat):Int)),V.int 3,V.int 2,V.int 1,V.int 1,V.int ((c8:Nat):Int)]) hV9;obtain⟨many,hmy,wok⟩:∃ many:Nat,([V.int 2,V.int (1+((j6:Nat):Int)),V.int 3,V.int 2,V.int 1,V.int 1,V.int ((c8:Nat):Int)]:List V)[j]?=some (.int ((many:Nat):Int))∧Wok z many:=by
    rcases (show j=0∨j=1∨j=2∨j=3∨j=4∨j=5∨j=6 by lia) with rfl | rfl | rfl | rfl | rfl | rfl | rfl
    · cases hz;exact⟨2,rfl,.inr (.inr (.inr (.inr (rM _ (List.getElem_mem hj2))))),by decide⟩
    · cases hz;exact⟨1+j6,by show some (V.int (1+((j6:Nat):Int)))=_;congr 2,.inl rfl,(by lia)⟩
    · cases hz;exact⟨3,rfl,.inr (.inl ⟨rfl,rfl⟩),by decide⟩
    · cases hz;exact⟨2,rfl,.inr (.inr (.inl ⟨rfl,rfl⟩)),by decide⟩
    · cases hz;exact⟨1,rfl,.inr (.inr (.inr (.inr hz4'))),by decide⟩
    · cases hz;exact⟨1,rfl,.inr (.inr (.inr (.inl ⟨rfl,rfl⟩))),by decide⟩
    · cases hz;exact⟨c8,rfl,.inr (.inr (.inr (.inr (by decide +kernel)))),hc8'⟩
   refine⟨_,rfl,_,_,rfl,rfl,V9,_,_,.int ((many:Nat):Int),rfl,rfl,SqL.of pG,by rw[hj];exact pJ hmy,?_⟩;refine Ab _ _ ?_;exact q3 _ z many _ ((ae.of k1).trans (kp2.trans ((ae.of k3).trans (kp4.trans ((ae.of k5).trans (kp6.trans ((ae.of k7).trans (kp8.trans (ae.of k9))))))))) (x8.same k9) wok
end
end K11
namespace P10
open PySem L2
theorem wy {B:List Int} {n:Nat} {ts:List (Str×Int×Bool×Int)} {d:PyData} (hl:ts.length≤3) (ok:OkE (B++(ts.map fun t=>t.2.1)) n d):∀ j,FrD (n+1) (.tuple (.str "fun"::[.tuple (ts.map fun t=>.int t.2.1),d])) j→j∈B:=fun j z=>by
 rcases z with z | ⟨k,x,h1,h2,h3⟩
 · have z':dQ "fun" [.tuple (ts.map fun t=>.int t.2.1),d]=some (.int j):=z;rw[gY (by decide +kernel)] at z';cases z'
 · rw[jy (sl:=(["bounds","one"]:List Str)) (ks:=[d]) (by decide +kernel) (.cons (xQ hl) (.cons iy .nil)) rfl (by show 1≤8;decide)] at h1 h3;obtain rfl:k=0:=by have:=(gES.mp h1).1;simp at this;omega
   cases h1;have h4:PyData.int j∉(ts.map fun t=>PyData.int t.2.1):=h3 rfl
   rcases mAp.mp (ok.cl j h2) with z | z
   · exact z
   · obtain⟨t,ht,e⟩:=List.mem_map.mp z;exact absurd (List.mem_map.mpr ⟨t,ht,by rw[e]⟩) h4
end P10
namespace K11
open PySem L2 P10
section
variable {P:Program} {w:World} {K:Fg} {mg:SOV} {base:Heap}
theorem kS {H:Hp} {C:Ctx} {N:Nat} {skv:NKV} {U L:Addr} {zs:List Str} {Q:VK} (x:SX P w K H C N skv) (hU:H U=some (.lst (zs.map V.str))) (hUr:U∉C.A.rs) (hL:H L=none) (hN:N+zs.length<900000) (hzl:zs.length≤1000)
 (q:∀ (H':Hp) (ys:List V) (ts:List (Str×Int×Bool×Int)),ae C.A H H'→SX P w K H' C (N+zs.length) skv→H' L=some (.lst ys)→TDs K H' ys (ts.map dSe)→ts.length=zs.length→Q (.ref L) H') :
 b5 (Itl K U) (gg 0) rR (gJ (iP P w K) [] E0 (cR (d9 1) (cR (d9 0) (cR (tC (.bl false)) je)))) Q [none,some (.ref C.A.s)] H L:=by
 have hz0:(1000000:Nat)<sizeLine:=by decide
 have k0:=smu (o:=HO.lst []) hL;have fr:=x.fr hL;have UL:U≠L:=fun e=>by rw[e,hL] at hU;cases hU
 refine b5.by (aK (xs:=zs.map V.str)) (fun j σ Hj=>ae C.A H Hj∧Hj U=some (.lst (zs.map V.str))∧(∃ (ys:List V) (ts:List (Str×Int×Bool×Int)),SX P w K Hj C (N+j) skv∧Hj L=some (.lst ys)∧TDs K Hj ys (ts.map dSe)∧ts.length=j)∧∃ y,σ=[y,some (.ref C.A.s)])
  ⟨ae.of k0,k0 _ _ hU,⟨[],[],x.same k0,pG,.nil,rfl⟩,_,rfl⟩ (fun j σ Hj _ z=>SqL.of z.2.1) ?_ ?_
 · rintro j v σ Hj hv ⟨kp,hUj,⟨ys,ts,xj,hLj,hts,htl⟩,y,rfl⟩;have hj:j<zs.length:=by have:=(gES.mp hv).1;rwa [lMp] at this
   rw[gEM] at hv;obtain⟨z,hz,rfl⟩:=oMS.mp hv;rw[aY,dN];refine bj ⟨_,rfl,_,rfl,C,_,skv,z,false,rfl,xj,by lia,fun v t H5 kp5 x5 tv=>?_⟩;have hL5:=xj.kL kp5 hLj fr.rs;have yl:=hts.length;rw[lMp] at yl;refine⟨ys,hL5,by lia,(kp.trans kp5).put hL,by rw[aa UL];exact xj.kL kp5 hUj hUr,⟨_,ts++[t],x5.updL fr hL5,pG,?_,by simp[htl]⟩,_,rfl⟩;rw[List.map_append];exact ((hts.tk (xj.tk kp5)).snoc tv).tk (aZ (.inr ⟨_,hL5⟩))
 · rintro σ Hj ⟨kp,hUj,⟨ys,ts,xj,hLj,hts,htl⟩,y,rfl⟩;rw[lMp] at xj htl;exact q Hj ys ts kp xj hLj hts htl
theorem oN {H:Hp} (ts:List (Str×Int×Bool×Int)):TDs K H (ts.map fun t=>V.int t.2.1) (ts.map fun t=>PyData.int t.2.1):=by
 induction ts with
 | nil=>exact .nil
 | cons t r ih=>exact .cons (.int _) ih
abbrev sFu:Stmt:=top 35
abbrev nFu:List Str:=["_law_state","_law_path","_law_seen_here","_law_deep","_law_way","_law_children","_law_some_here","_law_body"]
theorem yk:ax nFu jn (a9 sFu):=fsM
theorem zH:(["_law_name_here","_law_state"]:List Str).Nodup:=by decide +kernel
theorem nd1:(["_law_one"]:List Str).Nodup:=by decide +kernel
theorem zq {n:Nat} (D:Def K mg "_law_fun" sFu) (T:Blt mg) (ab:Fn P w K mg base "_law_pick" 2 ["_law_state","_law_many"] (fj P w K)) (af:Fn P w K mg base "_law_lay" 1 ["_law_state","_law_words"] (fk P w K)) (cs:Fn P w K mg base "_law_unlike" 4 ["_law_state","_law_others","_law_most"] (oR P w K)) (bV:Fn P w K mg base "_law_bind" 2 ["_law_state","_law_name_here","_law_is_var"] (iP P w K)) (bI:Fn P w K mg base "_law_some" (5*n+6) nF (oS P w K n)) (bU:Fn P w K mg base "_law_expr" (5*n+5) dG (ka P w K n)):Fn P w K mg base "_law_fun" (5*n+8) jn (nA P w K (fun _=>True) n):=by
 refine D.fn yk (fun vs H Q E h=>?_) (fun _ _ _ _ _ _ us hl=>by obtain⟨a,b,c,d,e,rfl⟩:=sV hl;rfl) (fun f cdv A outer s' H vs Q E hr h=>?_)
 · obtain⟨C,N,skv,pa,path,S,sn,dp,z,y,rfl,_⟩:=h;rfl
 · obtain⟨C,N,skv,pa,path,S,sn,dp,z,y,rfl,rfl,_,pre,hdp,hN,q⟩:=h;have nd:=yk.nd;have hu:=bS hr;have hz0:(1000000:Nat)<sizeLine:=by decide
   have hc:=dw dp;have hsl:=pre.sl;have hpl:=pre.pl;refine⟨_,(pE (aN (pO aT (pv 4) pH (pP _)) (pE (ak (ac af (hr.mono (by lia)) rfl (pA (pv 0) (pA (ag (pA pD (pA pD pC))) pC)))) (pE (pN (i:=5) nd rfl (Or.inl rfl) (ac bI (hr.mono (by lia)) rfl (pA (pv 0) (pA (pv 1) (pA (pv 2) (pA (pv 3) (pA pH (pA (aC bY pH (ac ab (hr.mono (by lia)) rfl (pA (pv 0) (pA pH pC)))) pC)))))))) (pE (ak (ac af (hr.mono (by lia)) rfl (pA (pv 0) (pA (ag (pA pD pC)) pC)))) (pI (au (az (pA pD (pA (am aB (pv 5) pH (fun _ _=>rfl)) (pA (c7 eO (pv 5) (bE pH) cL) pC))))))))) aF) (pE (ak (ac af (hr.mono (by lia)) rfl (pA (pv 0) (pA (ag (pA pD (pA pD (pA pD pC)))) pC)))) (pE (b7 hu (pv 0) pD (aC bY (pM hu (pv 0) pD (fun _ _=>rfl)) pH) rfl) (pE (gc (i0:=6) (own:=["_law_name_here"]) (outs:=[ (0,"_law_state") ]) rfl (aL.of (a9 sFu) nFu) (bq (ac cs (hr.mono (by lia)) rfl (pA (pv 0) (pA (ag pC) (pA pH pC))))) (fun _ _ _ _=>⟨(ao (i:=0) zH rfl (Or.inl rfl)),c6,(ac bV (hr.mono (by lia)) rfl (pA (pv 1) (pA (pv 0) (pA fC pC))))⟩) nd rfl rfl) (pE (ak (ac af (hr.mono (by lia)) rfl (pA (pv 0) (pA (ag (pA pD pC)) pC)))) (pE (pN (i:=7) nd rfl (Or.inl rfl) (ac bU (hr.mono (by lia)) rfl (pA (pv 0) (pA (aC cO (pv 1) (az (pA pH pC))) (pA (aC fF (pv 2) (pv 6)) (pA (aC bX (pv 3) pH) pC)))))) (pE (b7 hu (pv 0) pD (aC bX (pM hu (pv 0) pD (fun _ _=>rfl)) pH) rfl) (pE (ak (ac af (hr.mono (by lia)) rfl (pA (pv 0) (pA (ag (pA pD pC)) pC)))) (pI (au (az (pA pD (pA (bA T.tuple (pA (eE (own:=["_law_one"]) (outs:=[]) (te:=tOp (nE K) (d9 0) (tC (.int 1))) rfl (aL.of (a9 sFu) nFu) (bq (pv 6)) (fun _ _ _ _=>⟨(ao (i:=0) nd1 rfl (Or.inl rfl)),c6,(am aB (pv 0) pH (fun _ _=>rfl))⟩)) pC)) (pA (pv 7) pC)))))))))))))),?_⟩;dsimp only[bC,bH,bG]
   with_reducible refine a7 fun Dy C1=>?_
   refine⟨_,rfl,rfl,_,rfl,?_⟩;split
   · -- apply
     with_reducible refine a7 fun Dw BZ=>?_
     refine⟨_,rfl,gl,fun M hM=>?_⟩;have k1:=smu (o:=HO.lst [V.str "(",V.str "apply"]) hM;refine⟨C,_,skv,M,["(","apply"],2,rfl,rfl,pre.x.same k1,pG,pre.x.new hM,(by lia),fun i2 H2 kp2 x2=>?_⟩;refine BZ _ _ ?_
     with_reducible refine a7 fun BA wd=>?_
     have kp2':=(ae.of k1).trans kp2;refine⟨_,rfl,_,rfl,_,rfl,_,rfl,_,rfl,C,_,skv,3,rfl,x2,(by lia),by decide,fun r3 H3 r30 r31 kp3 x3=>?_⟩;have rH:=kp2'.trans kp3;have pre3:=pre.keep rH x3;obtain⟨j3,rfl⟩:=Int.eq_ofNat_of_zero_le r30;have hmul:(1+j3)*cst dp≤8*cst dp:=Nat.mul_le_mul_right _ (by lia);refine⟨_,_,rfl,rfl,C,_,skv,pa,path,S,sn,dp,_,_,1+j3,rfl,rfl,by lia,pre3,hdp,(by lia),by lia,fun v ds H4 skv4 kp4 x4 tv hl hok gr=>?_⟩;refine wd _ _ ?_
     with_reducible refine a7 fun Ds BV=>?_
     refine⟨_,rfl,eC,fun M5 hM5=>?_⟩;have k5:=smu (o:=HO.lst [V.str ")"]) hM5;refine⟨C,_,skv4,M5,[")"],1,rfl,rfl,x4.same k5,pG,x4.new hM5,by lia,fun i6 H6 kp6 x6=>?_⟩;refine BV _ _ ?_;have kp6':=(ae.of k5).trans kp6;have tv6:=tv.tk (x4.tk kp6');have oF:=rH.trans (kp4.trans kp6');obtain⟨d0,dr,rfl⟩:∃ d0 dr,ds=d0::dr:=by
      cases ds with
      | nil=>simp at hl;lia
      | cons d0 dr=>exact⟨d0,dr,rfl⟩
     obtain⟨av,xv,rfl,hav,hxv⟩:=tv6.tup_of;obtain⟨v0,vr,rfl,t0,tr⟩:∃ v0 vr,xv=v0::vr∧TD K H6 v0 d0∧TDs K H6 vr dr:=by
      cases hxv with
      | cons p q=>exact⟨_,_,rfl,p,q⟩
     refine⟨_,rfl,av,_,0,v0,rfl,rfl,hav,pJ (j:=0) rfl,_,rfl,_,rfl,av,_,rfl,hav,?_,fun z7 hz7=>?_⟩
     · unfold HT.sIx;simp
     · rw[show (some (1:Int))=some (((1:Nat):Nat):Int) from rfl,cF];have k7:=smu (o:=HO.tup ((v0::vr).drop 1)) hz7;have t7:TD K (upd H6 z7 (.tup ((v0::vr).drop 1))) (.ref z7) (.tuple dr):=.tup (SqT.of pG) (tr.same k7);have t0':=t0.same k7;generalize upd H6 z7 (.tup ((v0::vr).drop 1))=H7 at k7 t7 t0' ⊢;refine⟨eB,fun u hu'=>?_⟩;have k8:=smu (o:=HO.tup [V.str "apply",v0,V.ref z7]) hu';have hok':∀ x∈dr,OkE sn (dp+1) x:=fun x hx=>hok x (mCM _ hx);have hok0:=hok d0 mCS;have hl':dr.length+1=1+j3:=hl;obtain⟨ok,ek⟩:=OkE.make (n:=dp+1) (h:="apply") (sl:=["one","many"]) (ps:=[d0,.tuple dr]) (ks:=d0::dr) (by decide +kernel) (by decide +kernel) (.cons iy (.cons vj .nil)) (by show [d0]++(dr++[])=d0::dr;simp) (iD hok0.lay (ef fun x hx=>(hok' x hx).lay)) (iD hok0.dep1 (eh fun x hx=>(hok' x hx).dep)) (by rw[hl];lia) hok;exact q _ _ _ skv4 (oF.trans (ae.of (k7.trans k8))) ((x6.same (k7.trans k8)).more (by lia)) (.tup (SqT.of pG) (.cons (.str _) (.cons (t0'.same k8) (.cons (t7.same k8) .nil)))) ok (bm.node ek gr)
   · -- fun
     refine C1 _ _ ?_
     with_reducible refine a7 fun zM qD=>?_
     refine⟨_,rfl,eB,fun M hM=>?_⟩;have k1:=smu (o:=HO.lst [V.str "(",V.str "fun",V.str "("]) hM;refine⟨C,_,skv,M,["(","fun","("],3,rfl,rfl,pre.x.same k1,pG,pre.x.new hM,(by lia),fun i2 H2 kp2 x2=>?_⟩;refine qD _ _ ?_;have DT:=(ae.of k1).trans kp2;obtain⟨fu,hfu⟩:=x2.getI (y:="funs") (.inr (.inl rfl));obtain⟨H3,dp3,kp3,x3⟩:=x2.putI (y:="funs") (.inr (.inl rfl)) (fu+1);refine⟨_,rfl,C.A.s,_,rfl,hfu,_,_,rfl,rfl,_,rfl,C.A.s,H3,rfl,dp3,?_⟩;dsimp only;rw[fR,cH,cn];refine⟨_,rfl,f9,fun O hO=>?_⟩;have k4:=smu (o:=HO.lst []) hO;refine⟨C,_,skv,O,[],3,rfl,x3.same k4,pG,by decide,by lia,fun U zs H5 hzl hzn hU hU5 kp5 x5=>?_⟩;have kp5':=(ae.of k4).trans kp5;have Cn:=DT.trans (kp3.trans kp5');refine⟨U,rfl,⟨_,SqL.of hU5⟩,fun L hL=>?_⟩;refine kS x5 hU5 hU hL (by lia) (by lia) fun H6 ys ts kp6 x6 hL6 hts htl=>?_;have hts3:ts.length≤3:=by lia
     have frL:=(x5.fr hL).rs;rw[aY]
     with_reducible refine a7 fun D7 Af=>?_
     have oF:=Cn.trans kp6;have pre6:=pre.keep oF x6;refine⟨_,rfl,eC,fun M7 hM7=>?_⟩;have k7:=smu (o:=HO.lst [V.str ")"]) hM7;refine⟨C,_,skv,M7,[")"],1,rfl,rfl,x6.same k7,pG,x6.new hM7,by lia,fun i8 H8 kp8 x8=>?_⟩;refine Af _ _ ?_
     with_reducible refine a7 fun D4 Ac=>?_
     have kp8':=(ae.of k7).trans kp8;have Cm:=oF.trans kp8';have pre8:=pre6.keep kp8' x8;have hL8:=x6.kL kp8' hL6 frL;have hts8:=hts.tk (x6.tk kp8');refine⟨_,rfl,_,rfl,eC,fun t9 ht9=>?_⟩;have k9:=smu (o:=HO.tup [V.int 0]) ht9;have ht9':(upd H8 t9 (.tup [V.int 0])) t9=some (.tup [V.int 0]):=pG;generalize upd H8 t9 (.tup [V.int 0])=H9 at k9 ht9' ⊢;refine fK (j:=0) (pre8.same k9).pv ht9' rfl (by lia) fun p10 H10 k10 hp10=>?_;have k910:=k9.trans k10;have pre10:=pre8.same k910;have hts10:=hts8.same k910;obtain⟨xs,sv,g1,g2,g3,g4⟩:=pre10.se;have xl:=g2.length;rw[lMp] at xl;have g3l:=congrArg List.length g3;rw[lMp] at g3l;have yl:=hts10.length;rw[lMp] at yl;refine⟨_,rfl,_,rfl,S,L,_,_,rfl,rfl,SqL.of g1,SqL.of (k910 _ _ hL8),by lia,fun W hW=>?_⟩;have k12:=smu (o:=HO.lst (xs++ys)) hW;have se12:=SeV.cat pre10.x g2 hts10 g3 hW;have hp12:=k12 _ _ hp10;generalize upd H10 W (.lst (xs++ys))=H12 at k12 se12 hp12 ⊢;have K12:=k910.trans k12;have pre12:=pre8.same K12;refine⟨_,rfl,_,_,rfl,rfl,C,_,skv,p10,path++[0],W,sn++(ts.map fun t=>t.2.1),dp,_,rfl,(by lia),⟨pre12.x,hp12,by rw[lAp];show path.length+1+dp≤1000;lia,se12,by rw[lAp,lMp];lia⟩,hdp,by lia,fun v d H13 skv13 kp13 x13 td ok1 gr=>?_⟩;refine Ac _ _ ?_
     with_reducible refine a7 fun zL qC=>?_
     have kp13':=(ae.of K12).trans kp13;have rq:=Cm.trans kp13';have hL13:=pre8.x.kL kp13' hL8 frL;have hts13:=hts8.tk (pre8.x.tk kp13');obtain⟨fu,hfu⟩:=x13.getI (y:="funs") (.inr (.inl rfl));obtain⟨H14,dp14,kp14,x14⟩:=x13.putI (y:="funs") (.inr (.inl rfl)) (fu-1);refine⟨_,rfl,C.A.s,_,rfl,hfu,_,_,rfl,rfl,_,rfl,C.A.s,H14,rfl,dp14,?_⟩;refine qC _ _ ?_
     with_reducible refine a7 fun zK qB=>?_
     refine⟨_,rfl,eC,fun M15 hM15=>?_⟩;have k15:=smu (o:=HO.lst [V.str ")"]) hM15;refine⟨C,_,skv13,M15,[")"],1,rfl,rfl,x14.same k15,pG,x14.new hM15,by lia,fun i16 H16 kp16 x16=>?_⟩;refine qB _ _ ?_;have kp16':=kp14.trans ((ae.of k15).trans kp16);have Co:=rq.trans kp16';have hL16:=x13.kL kp16' hL13 frL;have tk16:=x13.tk kp16';have hts16:=hts13.tk tk16;have td16:=td.tk tk16;rw[gP,px,cq,yz,cq,gQ,cq,cn];refine⟨_,rfl,L,rfl,⟨_,SqL.of hL16⟩,fun L17 hL17=>?_⟩;refine b5.by (aK (xs:=ys)) (fun j σ Hj=>aj H16 Hj∧Hj L17=some (.lst ((ts.take j).map fun t=>V.int t.2.1))∧∃ y,σ=[y]) ⟨smu hL17,pG,_,rfl⟩ (fun j σ Hj _ z=>SqL.of (z.1 _ _ hL16)) ?_ ?_
     · rintro j x σ Hj hxj ⟨sj,hLj,y,rfl⟩;obtain⟨d',hd',htd'⟩:=hts16.get hxj;rw[gEM] at hd';obtain⟨t',ht',rfl⟩:=oMS.mp hd';obtain⟨a',rfl,ha'⟩:=dD htd';rw[aY,dN];refine bj ⟨_,rfl,a',_,1,_,rfl,rfl,sj.seqT ha',pJ (j:=1) rfl,_,hLj,by rw[lMp,lTk];lia,aD sj hL17,?_,_,rfl⟩;rw[pG,tAO,ht'];simp
     · rintro σ Hj ⟨sj,hLj,y,rfl⟩;have e:ys.length=ts.length:=by rw[yl]
       rw[e,List.take_length] at hLj;refine⟨L17,_,rfl,.inl ⟨SqL.of hLj,fun l hl=>?_⟩⟩;have k18:=smu (o:=HO.tup (ts.map fun t=>V.int t.2.1)) hl;have t18:TD K (upd Hj l (.tup (ts.map fun t=>V.int t.2.1))) (.ref l) (.tuple (ts.map fun t=>.int t.2.1)):=by
        refine .tup (SqT.of pG) ?_;exact oN ts
       generalize upd Hj l (.tup (ts.map fun t=>V.int t.2.1))=H18 at k18 t18 ⊢;have K18:=sj.trans k18;refine⟨_,rfl,eB,fun u hu'=>?_⟩;have k19:=smu (o:=HO.tup [V.str "fun",V.ref l,v]) hu';obtain⟨ok,ek⟩:=OkE.makeG (B:=sn) (n:=dp+1) (h:="fun") (sl:=["bounds","one"]) (ps:=[.tuple (ts.map fun t=>.int t.2.1),d]) (ks:=[d]) (by decide +kernel) (by decide +kernel) (.cons (xQ hts3) (.cons iy .nil)) rfl (iD (ef fun x hx=>by obtain⟨t,_,rfl⟩:=List.mem_map.mp hx;rfl) ok1.lay) (iD (eh (n:=2*(dp+1)) fun x hx=>by obtain⟨t,_,rfl⟩:=List.mem_map.mp hx;exact Nat.zero_le _) ok1.dep1) (by show 1≤8;decide) (ox ok1) (wy hts3 ok1);exact q _ _ _ skv13 (Co.trans (ae.of (K18.trans k19))) ((x16.same (K18.trans k19)).more (by lia)) (.tup (SqT.of pG) (.cons (.str _) (.cons (t18.same k19) (.cons ((td16.same K18).same k19) .nil)))) ok (bm.node ek (bm.kid gr rfl))
end
section
variable {P:Program} {w:World} {K:Fg} {mg:SOV} {base:Heap}
abbrev sIn:Stmt:=top 29
abbrev nIn:List Str:=["_law_state","_law_path","_law_seen_here","_law_deep","_law_way","_law_found","_law_local"]
theorem yi:ax nIn dG (a9 sIn):=fsM
theorem zo {n:Nat} (D:Def K mg "_law_inner" sIn) (T:Blt mg) (ab:Fn P w K mg base "_law_pick" 2 ["_law_state","_law_many"] (fj P w K)) (af:Fn P w K mg base "_law_lay" 1 ["_law_state","_law_words"] (fk P w K)) (aP:Fn P w K mg base "_law_tell" 1 ["_law_state","_law_at","_law_thing"] (iO P w K)) (cx:Fn P w K mg base "_law_seen" 1 ["_law_state","_law_seen_here","_law_is_set"] (ml P w K)) (dC:Fn P w K mg base "_law_number" 3 ["_law_state"] (mn P w K))
 (l5:Fn P w K mg base "_law_bound" (5*n+8) dG (xN P w K n)) (kX:Fn P w K mg base "_law_named" (5*n+8) jn (nA P w K (fun _=>True) n)) (kW:Fn P w K mg base "_law_plain" (5*n+8) jn (nA P w K (fun y=>8≤y∧y<15) n)) (oB:Fn P w K mg base "_law_fun" (5*n+8) jn (nA P w K (fun _=>True) n)):Fn P w K mg base "_law_inner" (5*n+9) dG (xH P w K n):=by
 refine D.fn yi (fun vs H Q E h=>?_) (fun _ _ _ _ _ _ us hl=>by obtain⟨a,b,c,d,rfl⟩:=nR hl;rfl) (fun f cdv A outer s' H vs Q E hr h=>?_)
 · obtain⟨C,N,skv,pa,path,S,sn,dp,z,rfl,_⟩:=h;rfl
 · obtain⟨C,N,skv,pa,path,S,sn,dp,z,rfl,rfl,pre,hdp,hN,q⟩:=h;have nd:=yi.nd;have hu:=bS hr;have hz0:(1000000:Nat)<sizeLine:=by decide
   have hc:=dw dp;have hsl:=pre.sl;have hpl:=pre.pl;obtain⟨t3,h3,q3⟩:∃ t,PSs (cE CX0 P w K mg base nIn "_law_inner" (a9 sIn) f cdv A outer s' H E).nox ((aQ sIn).drop 3) t ∧
    ∀ (H1:Hp) (y:Int) (x5 x6:Option V),ae C.A H H1→SX P w K H1 C (N+1) skv→0≤y→y<18→(y<2∨0<dp)→t {nx:=fun _ H'=>Q .non H',rt:=Q} [some (.ref C.A.s),some (.ref pa),some (.ref S),some (.int ((dp:Nat):Int)),some (.int y),x5,x6] H1:=by
    refine⟨_,(pE (aN (PW.pt (fw (pO kE (pv 4) pH (pP _)) (dk (pO aT (pv 4) pH (pP _))))) (pI (au (ac dC (hr.mono (by lia)) rfl (pA (pv 0) pC)))) aF) (pE (aN (pO kE (pv 4) pH (pP _)) (pI (au (ac l5 (hr.mono (by lia)) rfl (pA (pv 0) (pA (pv 1) (pA (pv 2) (pA (pv 3) pC))))))) aF) (pE (aN (pO kE (pv 4) pH (pP _)) (pI (au (ac kX (hr.mono (by lia)) rfl (pA (pv 0) (pA (pv 1) (pA (pv 2) (pA (pv 3) (pA (pv 4) pC)))))))) aF) (pE (aN (pO kE (pv 4) pH (pP _)) (pI (au (ac kW (hr.mono (by lia)) rfl (pA (pv 0) (pA (pv 1) (pA (pv 2) (pA (pv 3) (pA (pv 4) pC)))))))) aF) (pI (au (ac oB (hr.mono (by lia)) rfl (pA (pv 0) (pA (pv 1) (pA (pv 2) (pA (pv 3) (pA (pv 4) pC)))))))))))),fun H1 y x5 x6 kp1 x1 y0 y18 hy=>?_⟩;refine a7 fun DO Cf=>?_;have pre1:=pre.keep kp1 x1;have nb:∀ E',mn P w K [.ref C.A.s] H1 Q E':=fun E'=>⟨C,_,skv,rfl,x1,(by lia),fun v i H2 kp2 x2 td=>q v _ H2 skv (kp1.trans kp2) (x2.more (by lia)) td (OkE.leaf (s:="number") (by decide +kernel) (by decide +kernel) (by decide +kernel) (ji (by decide +kernel)) (by decide +kernel) rfl rfl _) (bm.refl _ _ _ _)⟩;refine⟨_,rfl,_,_,rfl,rfl,_,rfl,?_⟩;by_cases h2:y<2
    · exact pL (by simpa using h2) (bj ⟨_,rfl,nb E0⟩)
    · refine pK (by simpa using h2) ⟨_,rfl,rfl,_,rfl,?_⟩;by_cases h17:y=17
      · subst h17;exact pL (by decide) ⟨_,rfl,nb E0⟩
      · refine pK (by simp[h17]) ?_;refine Cf _ _ ?_;obtain⟨d',rfl⟩:∃ d',dp=d'+1:=⟨dp-1,(Nat.sub_add_cancel (Or.resolve_left ‹y<2∨0<dp› ‹¬ y<2›)).symm⟩;have hcs:cst (d'+1)=8*cst d'+40:=rfl;have fin:oy P w K C sn path (d'+2) (N+1+8*cst d'+36) skv H1 Q:=fun v d H' skv' kp x td ok gr=>q v d H' skv' (kp1.trans kp) (x.more (by lia)) td ok gr;refine⟨_,rfl,_,_,rfl,rfl,_,rfl,?_⟩;by_cases h5:y<5
        · exact pL (by simpa using h5) ⟨_,rfl,_,rfl,_,rfl,_,rfl,C,_,skv,pa,path,S,sn,d',_,rfl,rfl,pre1,(by lia),(by lia),fin⟩
        · refine pK (by simpa using h5) ⟨_,rfl,_,_,rfl,rfl,_,rfl,?_⟩;by_cases h8:y<8
          · exact pL (by simpa using h8) ⟨_,rfl,_,rfl,_,rfl,_,rfl,_,rfl,C,_,skv,pa,path,S,sn,d',_,_,rfl,rfl,trivial,pre1,(by lia),(by lia),fin⟩
          · refine pK (by simpa using h8) ⟨_,rfl,_,_,rfl,rfl,_,rfl,?_⟩;by_cases h15:y<15
            · exact pL (by simpa using h15) ⟨_,rfl,_,rfl,_,rfl,_,rfl,_,rfl,C,_,skv,pa,path,S,sn,d',_,_,rfl,rfl,⟨by lia,h15⟩,pre1,(by lia),(by lia),fin⟩
            · exact pK (by simpa using h15) ⟨_,rfl,_,rfl,_,rfl,_,rfl,_,rfl,C,_,skv,pa,path,S,sn,d',_,_,rfl,rfl,trivial,pre1,(by lia),(by lia),fin⟩
   obtain⟨t2b,h2b,q2b⟩:∃ t,PSs (cE CX0 P w K mg base nIn "_law_inner" (a9 sIn) f cdv A outer s' H E).nox (w6 ((aQ sIn).getD 2 p0)) t ∧
    ∀ (DD:dY) (H1:Hp) (y:Int),ae C.A H H1→SX P w K H1 C (N+1) skv→0≤y→y<18→(y<2∨0<dp)→(∀ σ' H',t3 {nx:=fun _ H'=>Q .non H',rt:=Q} σ' H'→DD.nx σ' H')→(∀ v H',Q v H'→DD.rt v H')→t DD [some (.ref C.A.s),some (.ref pa),some (.ref S),some (.int ((dp:Nat):Int)),some (.int y),none,none] H1:=by
    refine⟨_,(pE (pN (i:=5) nd rfl (Or.inl rfl) (ac cx (hr.mono (by lia)) rfl (pA (pv 0) (pA (pv 2) (pA fC pC))))) (pI (aN (pO (fV hu) (pv 5) (ag pC) (pP _)) (pE (pN (i:=6) nd rfl (Or.inl rfl) (am aG (pv 5) (ac ab (hr.mono (by lia)) rfl (pA (pv 0) (pA (be T.len (pA (pv 5) pC)) pC))) (fun _ _=>rfl))) (pE (ak (ac aP (hr.mono (by lia)) rfl (pA (pv 0) (pA (ac af (hr.mono (by lia)) rfl (pA (pv 0) (pA (ag (pA (am aB (pv 6) pH (fun _ _=>rfl)) pC)) pC))) (pA (az (pA pD (pA (pM hu (pv 0) pD (fun _ _=>rfl)) (pA (am aB (pv 6) pH (fun _ _=>rfl)) pC)))) pC))))) (pI (au (az (pA pD (pA (am aB (pv 6) pH (fun _ _=>rfl)) pC))))))) aF))),fun DD H1 y kp1 x1 y0 y18 hy hD hR=>?_⟩;refine a7 fun Dz C2=>?_;have pre1:=pre.keep kp1 x1;refine⟨_,rfl,_,rfl,C,_,skv,S,sn,false,rfl,x1,pre1.se,(by lia),fun W zs ts H2 s2 hW hW2 ht htl hmem=>?_⟩;refine C2 _ _ ?_;have htl':=ht.length;rw[lMp] at htl';refine⟨_,rfl,f9,fun e0 he=>?_⟩;have k3:=smu (o:=HO.lst []) he;refine⟨W,e0,zs,rfl,rfl,SqL.of (k3 _ _ hW2),SqL.of pG,_,rfl,?_⟩;have hW3:=k3 _ _ hW2;have ht3:=ht.same k3;generalize upd H2 e0 (.lst [])=H3 at k3 hW3 ht3 ⊢;have s3:=s2.trans k3;have x3:=x1.same s3;cases hzs:zs with
    | nil=>exact aU (hD _ _ (q3 H3 y _ _ (kp1.trans (ae.of s3)) x3 y0 y18 hy))
    | cons z0 zr =>
     have hzl:0<zs.length:=by rw[hzs];exact Nat.succ_pos _
     refine bj ?_;refine a7 fun zI qz=>?_;refine⟨_,rfl,_,rfl,_,rfl,W,_,rfl,.inl (SqL.of hW3),C,_,skv,_,rfl,x3,(by lia),(by lia),fun r H4 r0 r1 kp4 x4=>?_⟩;have hW4:=x3.kL kp4 hW3 (x1.new hW);have ht4:=ht3.tk (x3.tk kp4);obtain⟨j,rfl⟩:=Int.eq_ofNat_of_zero_le r0;have hj:j<zs.length:=(by lia);have hzj:zs[j]?=some zs[j]:=gEE hj;obtain⟨d0,hd0,td0⟩:=ht4.get hzj;rw[gEM] at hd0;obtain⟨t0,ht0,rfl⟩:=oMS.mp hd0;obtain⟨a,ea,ha⟩:=dD td0;rw[ea] at td0;refine⟨W,_,_,.ref a,rfl,rfl,SqL.of hW4,pJ (by rw[hzj,ea]),?_⟩;refine qz _ _ (a7 fun Bz wc=>?_);refine⟨_,rfl,_,rfl,_,rfl,a,_,0,_,rfl,rfl,ha,pJ (j:=0) rfl,eC,fun M hM=>?_⟩;have k5:=smu (o:=HO.lst [V.str t0.1]) hM;refine⟨C,_,skv,M,[t0.1],1,rfl,rfl,x4.same k5,pG,x4.new hM,(by lia),fun i5 H5 kp5 x5=>?_⟩;have kp5':=(ae.of k5).trans kp5;have td5:=td0.tk (x4.tk kp5');obtain⟨a',e,ha5⟩:=dD td5;cases e;refine⟨_,rfl,C.A.s,_,rfl,x5.rd.2.1,_,rfl,a,_,1,_,rfl,rfl,ha5,pJ (j:=1) rfl,eB,fun t ht'=>?_⟩;have k6:=smu (o:=HO.tup [V.str "local",V.int ((C.fn:Nat):Int),V.int t0.2.1]) ht';refine⟨C,_,skv,_,_,rfl,x5.same k6,(by lia),fun H6 kp6 x6=>?_⟩;refine wc _ _ ?_;have kp6':=(ae.of k6).trans kp6;obtain⟨a',e,ha6⟩:=dD (td5.tk (x5.tk kp6'));cases e;refine⟨_,rfl,a,_,1,_,rfl,rfl,ha6,pJ (j:=1) rfl,gl,fun u hu'=>?_⟩;have k7:=smu (o:=HO.tup [V.str "name",V.int t0.2.1]) hu';exact hR _ _ (q _ _ _ skv (kp1.trans ((ae.of s3).trans (kp4.trans (kp5'.trans (kp6'.trans (ae.of k7)))))) ((x6.same k7).more (by lia)) (.tup (SqT.of pG) (.cons (.str _) (.cons (.int _) .nil))) (OkE.leafM (s:="meant") (by decide +kernel) (by decide +kernel) (by decide +kernel) (ji (by decide +kernel)) (by decide +kernel) rfl rfl _ (fun i z=>by cases (show some (PyData.int t0.2.1)=some (.int i) from z);exact hmem t0 (mGE ht0))) (bm.refl _ _ _ _))
   obtain⟨t2,h2,q2⟩:∃ t,PSs (cE CX0 P w K mg base nIn "_law_inner" (a9 sIn) f cdv A outer s' H E).nox ((aQ sIn).drop 2) t ∧
    ∀ (H1:Hp) (y:Int),ae C.A H H1→SX P w K H1 C (N+1) skv→0≤y→y<18→(y<2∨0<dp)→t {nx:=fun _ H'=>Q .non H',rt:=Q} [some (.ref C.A.s),some (.ref pa),some (.ref S),some (.int ((dp:Nat):Int)),some (.int y),none,none] H1:=by
    refine⟨_,(pE (aN (PW.pt (fw (pO aT (pv 4) pH (pP _)) (dk (pO aT (pv 4) pH (pP _))))) h2b aF) h3),fun H1 y kp1 x1 y0 y18 hy=>?_⟩;refine⟨_,rfl,rfl,_,rfl,?_⟩;by_cases h1:y=1
    · exact pL (by simp[h1]) (bj (q2b _ H1 y kp1 x1 y0 y18 hy (fun _ _ z=>z) fun _ _ z=>z))
    · refine pK (by simp[h1]) ⟨_,rfl,rfl,_,rfl,?_⟩;by_cases h17:y=17
      · exact pL (by simp[h17]) (q2b _ H1 y kp1 x1 y0 y18 hy (fun _ _ z=>z) fun _ _ z=>z)
      · exact pK (by simp[h17]) (q3 H1 y _ _ kp1 x1 y0 y18 hy)
   refine⟨_,(pE (pN (i:=4) nd rfl (Or.inl rfl) (ac ab (hr.mono (by lia)) rfl (pA (pv 0) (pA pH pC)))) (pE (aN (PW.pt (fw (pO aT (pv 3) pH (pP _)) (dk (pO kE (pM hu (pv 0) pD (fun _ _=>rfl)) pH (pP _))))) (pI (pN (i:=4) nd rfl (Or.inl rfl) (aC dq (pv 4) pH))) aF) h2)),?_⟩;refine a7 fun qk ii=>?_;refine⟨_,rfl,C,N,skv,18,rfl,pre.x,(by lia),by decide,fun r H1 r0 r1 kp1 x1=>?_⟩;refine ii _ _ ?_;have r2:0≤r % 2∧r % 2<2:=lw r 2 (by decide);refine⟨_,rfl,rfl,_,rfl,?_⟩;by_cases hd:dp=0
   · refine pL (by simp[hd]) (bj ?_);exact⟨_,rfl,_,_,rfl,rfl,by decide,q2 H1 _ kp1 x1 r2.1 (by lia) (.inl r2.2)⟩
   · refine pK (by simp;assumption) ?_;obtain⟨lf,hlf⟩:=x1.getI (y:="left") (.inr (.inr rfl));refine⟨_,rfl,C.A.s,_,rfl,hlf,_,_,rfl,rfl,_,rfl,?_⟩;split
     · exact⟨_,rfl,_,_,rfl,rfl,by decide,q2 H1 _ kp1 x1 r2.1 (by lia) (.inl r2.2)⟩
     · exact q2 H1 r kp1 x1 r0 r1 (.inr (by lia))
end
theorem sx {P:Program} {w:World} {td ty tv:TE} {D:dY} {σ:St} {H:Hp}:tT P w td ty tv D σ H=tv σ H fun v H1=>td σ H1 fun x H2=>ty σ H2 fun y H3=>∃ d b kvs k,x=.ref d∧y=.ref b∧H3 d=some (DN P w d kvs)∧df H3 kvs∧bZ H3 b k∧kvs.length<sizeLine∧D.nx σ (upd H3 d (DN P w d (dF kvs k b v))):=rfl
section
variable {P:Program} {w:World} {K:Fg} {mg:SOV} {base:Heap}
abbrev sEx:Stmt:=top 27
abbrev nEx:List Str:=["_law_state","_law_path","_law_seen_here","_law_deep","_law_first","_law_node","_law_e"]
theorem vo:ax nEx dG (a9 sEx):=fsM
theorem zx {n:Nat} (D:Def K mg "_law_expr" sEx) (T:Blt mg) (kZ:Fn P w K mg base "_law_inner" (5*n+9) dG (xH P w K n)):Fn P w K mg base "_law_expr" (5*n+10) dG (ka P w K (n+1)):=by
 refine D.fn vo (fun vs H Q E h=>?_) (fun _ _ _ _ _ _ us hl=>by obtain⟨a,b,c,d,rfl⟩:=nR hl;rfl) (fun f cdv A outer s' H vs Q E hr h=>?_)
 · obtain⟨C,N,skv,pa,path,S,sn,dp,z,rfl,_⟩:=h;rfl
 · obtain⟨C,N,skv,pa,path,S,sn,dp,z,rfl,rfl,pre,hdp,hN,q⟩:=h;have nd:=vo.nd;have hu:=bS hr;have hu65:=hr.units65;have hu10:(A.deeper (PyProof.Rows.envOfC "_law_expr" (a9 sEx) s'.heap.objs.size f cdv)).units+10<cLine:=by lia
   have hz0:(1000000:Nat)<sizeLine:=by decide
   have hc:=dw dp;have hsl:=pre.sl;have hpl:=pre.pl;refine⟨_,(pE (pN (i:=4) nd rfl (Or.inl rfl) (be T.len (pA (am aG (pM hu (pv 0) pD (fun _ _=>rfl)) (pM hu (pv 0) pD (fun _ _=>rfl)) (fun _ _=>rfl)) pC))) (pE (pN (i:=5) nd rfl (Or.inl rfl) (az (pA (pM hu (pv 0) pD (fun _ _=>rfl)) (pA (pv 1) pC)))) (pE (b7 hu (pM hu (pv 0) pD (fun _ _=>rfl)) (az (pA (pM hu (pv 0) pD (fun _ _=>rfl)) (pA (pv 4) pC))) (pv 5) rfl) (pE (mw hu10 (pM hu (pv 0) pD (fun _ _=>rfl)) (pv 5) (eE (own:=["_law_one"]) (outs:=[]) (te:=uZ (cR (tOp (nE K) (d9 0) (tC (.int 0))) (cR (tOp (nE K) (d9 0) (tC (.int 1))) je))) rfl (aL.of (a9 sEx) nEx) (bq (pv 2)) (fun _ _ _ _=>⟨(ao (i:=0) nd1 rfl (Or.inl rfl)),c6,(az (pA (am aB (pv 0) pH (fun _ _=>rfl)) (pA (am aB (pv 0) pH (fun _ _=>rfl)) pC)))⟩)) rfl) (pE (b7 hu (pv 0) pD (aC bX (pM hu (pv 0) pD (fun _ _=>rfl)) pH) rfl) (pE (pN (i:=6) nd rfl (Or.inl rfl) (ac kZ (hr.mono (by lia)) rfl (pA (pv 0) (pA (pv 1) (pA (pv 2) (pA (pv 3) pC)))))) (pE (mw hu10 (pM hu (pv 0) pD (fun _ _=>rfl)) (pv 5) (az (pA (pM hu (pv 0) pD (fun _ _=>rfl)) (pA (pv 4) (pA (aC bX (be T.len (pA (am aG (pM hu (pv 0) pD (fun _ _=>rfl)) (pM hu (pv 0) pD (fun _ _=>rfl)) (fun _ _=>rfl)) pC)) (pv 4)) pC)))) rfl) (pI (au (pv 6)))))))))),?_⟩;dsimp only[bC,bH,bG];refine a7 fun DM Ce=>?_;obtain⟨rp,rf,rr,rn,re,rs,rv,rat,ws,hws⟩:=pre.x.rd;refine⟨_,rfl,C.A.s,_,rfl,rr,_,rfl,C.A.s,_,rfl,rp,C.A.ro,_,_,.ref C.r,rfl,rfl,SqL.of rv,rat,C.r,_,rfl,.inl (SqL.of hws),?_⟩;refine Ce _ _ (a7 fun DK Cc=>?_);refine⟨_,rfl,C.A.s,_,rfl,rf,_,rfl,gl,fun b hb=>?_⟩;refine Cc _ _ (a7 fun DJ Cb=>?_);have k1:=smu (o:=HO.tup [V.int ((C.fn:Nat):Int),V.ref pa]) hb;have hb1:(upd H b (.tup [V.int ((C.fn:Nat):Int),V.ref pa])) b=some (.tup [V.int ((C.fn:Nat):Int),V.ref pa]):=pG;generalize upd H b (.tup [V.int ((C.fn:Nat):Int),V.ref pa])=H1 at k1 hb1 ⊢;have pre1:=pre.same k1;have nb1:=pre1.pv.node hb1;obtain⟨rp,rf,rr,rn,re,rs,rv,rat,_⟩:=pre1.x.rd;refine⟨_,rfl,_,rfl,C.A.s,_,rfl,rn,_,rfl,C.A.s,_,rfl,rp,_,rfl,gl,fun t ht=>?_⟩;have k2:=smu (o:=HO.tup [V.int ((C.p:Nat):Int),V.int ((ws.map V.str).length:Nat)]) ht;have ht2:(upd H1 t (.tup [V.int ((C.p:Nat):Int),V.int ((ws.map V.str).length:Nat)])) t=some (.tup [V.int ((C.p:Nat):Int),V.int ((ws.map V.str).length:Nat)]):=pG;generalize upd H1 t (.tup [V.int ((C.p:Nat):Int),V.int ((ws.map V.str).length:Nat)])=H2 at k2 ht2 ⊢;have pre2:=pre1.same k2;obtain⟨H3,dp3,kp3,x3⟩:=pre2.x.noded ht2 (.ref b) (by lia);refine⟨C.A.no,H3,rfl,dp3,?_⟩;refine Cb _ _ (a7 fun DB C4=>?_);have pre3:=pre2.keep kp3 x3;have nb3:bZ H3 b (nk C.fn path):=(nb1.keep fun c ys z=>k2 _ _ z).keep fun c ys z=>pre2.x.kT kp3 z;have rH:ae C.A H H3:=(ae.of (k1.trans k2)).trans kp3;rw[sx,cn];obtain⟨xs,sv,g1,g2,g3,g4⟩:=pre3.se;have xl:=g2.length;rw[lMp] at xl;have g3l:=congrArg List.length g3;rw[lMp] at g3l;refine⟨_,rfl,S,rfl,⟨_,SqL.of g1⟩,fun L hL=>?_⟩;refine b5.by (aK (xs:=xs)) (fun j σ Hj=>aj H3 Hj∧(∃ ys,Hj L=some (.lst ys)∧ys.length≤j)∧∃ y,σ=[y]) ⟨smu hL,⟨[],pG,Nat.le_refl _⟩,_,rfl⟩ (fun j σ Hj _ z=>SqL.of (z.1 _ _ g1)) ?_ ?_
   · rintro j x σ Hj hxj ⟨sj,⟨ys,hLj,hyl⟩,y,rfl⟩;have hj:j<xs.length:=(gES.mp hxj).1;obtain⟨d',hd',htd'⟩:=g2.get hxj;rw[gEM] at hd';obtain⟨t',ht',rfl⟩:=oMS.mp hd';obtain⟨a',rfl,ha'⟩:=dD htd';rw[aY,dN];refine bj ⟨_,rfl,a',_,0,_,rfl,rfl,sj.seqT ha',pJ (j:=0) rfl,_,rfl,a',_,1,_,rfl,rfl,sj.seqT ha',pJ (j:=1) rfl,gl,fun u hu'=>?_⟩;have ku:=smu (o:=HO.tup [V.str t'.1,V.int t'.2.1]) hu';exact⟨ys,ku _ _ hLj,by lia,aD (sj.trans ku) hL,⟨_,pG,by simp;assumption⟩,_,rfl⟩
   · rintro σ Hj ⟨sj,_,y,rfl⟩;have pre4:=pre3.same sj;have nb4:bZ Hj b (nk C.fn path):=nb3.keep fun c ys z=>sj _ _ z;obtain⟨rp,rf,rr,rn,re,rs,rv,rat,_⟩:=pre4.x.rd;obtain⟨kvs,e1,e2,e3,kp5,x5⟩:=pre4.x.seend nb4 (.ref L) (by lia);refine⟨_,rfl,C.A.s,_,rfl,re,_,rfl,C.A.se,b,kvs,nk C.fn path,rfl,rfl,e1,e2,nb4,e3,?_⟩;refine C4 _ _ (a7 fun zI qz=>?_);have pre5:=pre4.keep kp5 x5;have nb5:=nb4.keep fun c ys z=>pre4.x.kT kp5 z;generalize upd Hj C.A.se (DN P w C.A.se (dF kvs (nk C.fn path) b (.ref L)))=H5 at kp5 x5 pre5 nb5 ⊢;obtain⟨lf,hlf⟩:=x5.getI (y:="left") (.inr (.inr rfl));obtain⟨H6,dp6,kp6,x6⟩:=x5.putI (y:="left") (.inr (.inr rfl)) (lf-1);refine⟨_,rfl,C.A.s,_,rfl,hlf,_,_,rfl,rfl,_,rfl,C.A.s,H6,rfl,dp6,?_⟩;refine qz _ _ (a7 fun Do BR=>?_);have pre6:=pre5.keep kp6 x6;have nb6:=nb5.keep fun c ys z=>pre5.x.kT kp6 z;have oF:=rH.trans ((ae.of sj).trans (kp5.trans kp6));refine⟨_,rfl,_,rfl,_,rfl,_,rfl,C,_,skv,pa,path,S,sn,dp,_,rfl,rfl,pre6,by assumption,(by lia),fun v d H7 skv7 kp7 x7 td ok gr=>?_⟩;refine BR _ _ (a7 fun Dl BO=>?_);have nb7:=nb6.keep fun c ys z=>pre6.x.kT kp7 z;obtain⟨rp,rf,rr,rn,re,rs,rv,rat,ws',hws'⟩:=x7.rd;refine⟨_,rfl,C.A.s,_,rfl,rp,_,rfl,_,rfl,C.A.s,_,rfl,rr,_,rfl,C.A.s,_,rfl,rp,C.A.ro,_,_,.ref C.r,rfl,rfl,SqL.of rv,rat,C.r,_,rfl,.inl (SqL.of hws'),_,rfl,_,_,rfl,rfl,eB,fun u hu'=>?_⟩;have k8:=smu (o:=HO.tup [V.int ((C.p:Nat):Int),V.int ((ws.map V.str).length:Nat),V.int (((ws'.map V.str).length:Nat)-((ws.map V.str).length:Nat))]) hu';generalize upd H7 u (.tup [V.int ((C.p:Nat):Int),V.int ((ws.map V.str).length:Nat),V.int (((ws'.map V.str).length:Nat)-((ws.map V.str).length:Nat))])=H8 at k8 ⊢;have x8:=x7.same k8;have nb8:bZ H8 b (nk C.fn path):=nb7.keep fun c ys z=>k8 _ _ z;obtain⟨rp,rf,rr,rn,re,rs,rv,rat,_⟩:=x8.rd;obtain⟨e1,e2,e3,kp9,x9⟩:=x8.spanned nb8 (.ref u) (by lia);refine⟨_,rfl,C.A.s,_,rfl,rs,_,rfl,C.A.sp,b,skv7,nk C.fn path,rfl,rfl,e1,e2,nb8,e3,?_⟩;refine BO _ _ ?_;refine⟨_,rfl,q v d _ _ (oF.trans (kp7.trans ((ae.of k8).trans kp9))) (x9.more (by lia)) ((td.same k8).tk (x8.tk kp9)) ok (gr.put b _)⟩
theorem vP (D:Def K mg "_law_expr" sEx):Fn P w K mg base "_law_expr" 5 dG (ka P w K 0):=by
 refine D.fn vo (fun vs H Q E h=>?_) (fun _ _ _ _ _ _ us hl=>by obtain⟨a,b,c,d,rfl⟩:=nR hl;rfl) (fun f cdv A outer s' H vs Q E hr h=>?_)
 · obtain⟨C,N,skv,pa,path,S,sn,dp,z,rfl,_⟩:=h;rfl
 · obtain⟨C,N,skv,pa,path,S,sn,dp,z,rfl,rfl,pre,hdp,_⟩:=h;exact absurd hdp (Nat.not_lt_zero _)
structure Exs (K:Fg) (mg:SOV):Prop where
  ex:Def K mg "_law_expr" sEx
  inr:Def K mg "_law_inner" sIn
  so:Def K mg "_law_some" sSo
  bo:Def K mg "_law_bound" sBo
  na:Def K mg "_law_named" sNa
  re:Def K mg "_law_record" sRe
  pl:Def K mg "_law_plain" sPl
  fu:Def K mg "_law_fun" sFu
theorem vO (D:Exs K mg) (T:Blt mg) (ab:Fn P w K mg base "_law_pick" 2 ["_law_state","_law_many"] (fj P w K)) (af:Fn P w K mg base "_law_lay" 1 ["_law_state","_law_words"] (fk P w K)) (aP:Fn P w K mg base "_law_tell" 1 ["_law_state","_law_at","_law_thing"] (iO P w K)) (cx:Fn P w K mg base "_law_seen" 1 ["_law_state","_law_seen_here","_law_is_set"] (ml P w K)) (dC:Fn P w K mg base "_law_number" 3 ["_law_state"] (mn P w K)) (bT:Fn P w K mg base "_law_name" 3 ["_law_state"] (mm P w K)) (bV:Fn P w K mg base "_law_bind" 2 ["_law_state","_law_name_here","_law_is_var"] (iP P w K)) (bc:Fn P w K mg base "_law_choices" 2 ["_law_state","_law_sort"] (mr P w K)) (cs:Fn P w K mg base "_law_unlike" 4 ["_law_state","_law_others","_law_most"] (oR P w K)):∀ n,Fn P w K mg base "_law_expr" (5*n+5) dG (ka P w K n):=by
 intro n
 induction n with
 | zero=>exact vP D.ex
 | succ n ih =>
  have so:=yU D.so T ih;have re:=yX D.re T ab af aP bc so;have bo:=zB D.bo T ab af bT bV ih;have na:=ze D.na T ab af aP bT cx bc so re;have pl:=yZ D.pl T ab af so;have fu:=zq D.fu T ab af cs bV so ih;exact zx D.ex T (zo D.inr T ab af aP cx dC bo na pl fu)
end
theorem nO (kvs:List (Str×V)):∀ (acc:List (Key×V)) (m:Str→Option V),(∀ k:Str,bi acc (.inr k)=m k)→∀ k:Str,bi (bM acc (kvs.map fun p=>(Sum.inr p.1,p.2))) (.inr k)=(kvs.foldl (fun m p=>aH m p.1 p.2) m) k:=by
 induction kvs with
 | nil=>exact fun acc m h=>h
 | cons p r ih =>
  intro acc m h;refine ih (bW acc (.inr p.1) p.2) (aH m p.1 p.2) fun k=>?_;rw[dL,h k];unfold aH;by_cases e:k=p.1
  · rw[if_pos (by rw[e]),if_pos e]
  · rw[if_neg (by simpa using e),if_neg e]
theorem StV.made {H:Hp} {f:Addr} (kvs:List (Str×V)) {n:Nat} (hn:kvs.length≤n):StV (upd H f (.dK (bM [] (kvs.map fun p=>(Sum.inr p.1,p.2))))) f n (kvs.foldl (fun m p=>aH m p.1 p.2) fun _=>none):=by
 refine⟨_,pG,?_,nO kvs [] _ fun k=>rfl⟩;have:=cy (kvs.map fun p=>((Sum.inr p.1:Key),p.2)) [];rw[lMp] at this;show (bM [] _).length≤n;simp at this;lia
theorem StV.wide {H:Hp} {f:Addr} {n n':Nat} {m:Str→Option V} (h:StV H f n m) (hn:n≤n'):StV H f n' m:=by
 obtain⟨kvs,h1,h2,h3⟩:=h;exact⟨kvs,h1,Nat.le_trans h2 hn,h3⟩
def bw (so:Str) (x:Addr×Frm):Bool:=decide (x.2.sort=so)
section
variable {P:Program} {w:World} {K:Fg} {mg:SOV} {base:Heap}
abbrev sFo:Stmt:=top 19
abbrev nFo:List Str:=["_law_state","_law_part","_law_number_here","_law_head","_law_name_here","_law_sort","_law_taken","_law_opened","_law_inner_here","_law_count"]
abbrev vA:List Str:=["_law_state","_law_part","_law_number_here"]
theorem ym:ax nFo vA (a9 sFo):=fsM
theorem Bv:(["_law_form_here","_law_part","_law_sort","_law_name_here"]:List Str).Nodup:=by decide +kernel
theorem Bu:(["_law_form_here","_law_name_here"]:List Str).Nodup:=by decide +kernel
theorem Br:(["_law_form_here","_law_sort"]:List Str).Nodup:=by decide +kernel
structure Az (H0 H:Hp) (f:Addr) (fm:Frm) (part:Int) (fl:FL):Prop where
  fv:iq H f fm
  pt:fm.part=part
  new:H0 f=none
  newI:H0 fm.inner=none
  inn:fm.inn.length≤4∧(fm.sort="record"→0<fm.inn.length)
  so:fm.sort="record"∨fm.sort="function"
  num:fm.number=(((fl.filter (bw fm.sort)).length:Nat):Int)
  few:∃ kvs,H f=some (.dK kvs)∧kvs.length≤10
inductive uF (K:Fg) (vs:List V) (H:Hp) (Q:VK):Prop
  | mk (s a fo:Addr) (n:Nat) (m:Str→Option V) (ns:List Int) (k:Int) (fl:FL) (part:Int) (num:Nat) (g0_:vs=[.ref s,.int part,.int ((num:Nat):Int)]) (g1_:num<16) (g2_:Pk K H s n m a ns k) (g3_:(KL K a ns∨∃ b,H a=some b)) (g4_:k<800000) (g5_:m "forms"=some (.ref fo)) (g6_:H fo=some (.lst (fl.map fun x=>V.ref x.1))) (g7_:FsV H fl) (g8_:fl.length≤100) (g9_:(∀ x∈fl,x.1≠s)) (g10_:∀ f fm k' H',Smf s H H'→Az H H' f fm part fl→k≤k'→k'≤k+20→Pk K H' s n (aH m "k" (.int k')) a ns k'→Q (.ref f) H'):uF K vs H Q
def xJ (K:Fg):Sp:=fun vs H Q _=>uF K vs H Q
theorem FsV.smf {H H':Hp} {s:Addr} {fl:FL} (h:FsV H fl) (sm:Smf s H H') (ne:∀ x∈fl,x.1≠s) (hs:∃ kvs,H s=some (.dK kvs)):FsV H' fl:=fun x hx=>by
 obtain⟨⟨m,⟨kvs,h1,h2⟩,r⟩,i⟩:=h x hx;refine⟨⟨m,⟨kvs,sm _ _ (ne x hx) h1,h2⟩,r⟩,sm _ _ (fun e=>?_) i⟩;obtain⟨kv,hk⟩:=hs;rw[e,hk] at i;cases i
theorem zt (D:Def K mg "_law_form" sFo) (T:Blt mg) (ab:Fn P w K mg base "_law_pick" 2 ["_law_state","_law_many"] (iw K)) (cs:Fn P w K mg base "_law_unlike" 4 ["_law_state","_law_others","_law_most"] (vg K)):Fn P w K mg base "_law_form" 5 vA (xJ K):=by
 refine D.fn ym (fun vs H Q E h=>?_) (fun _ _ _ _ _ _ us hl=>by obtain⟨a,b,c,rfl⟩:=gs hl;rfl) (fun f cdv A outer s' H vs Q E hr h=>?_)
 · obtain⟨s,a,fo,n,m,ns,k,fl,part,num,rfl,_⟩:=h;rfl
 · obtain⟨s,a,fo,n,m,ns,k,fl,part,num,rfl,hnum,pk,al,hk,hfo,hF,hfs,hfl,hne,q⟩:=h;have nd:=ym.nd;have hu:=bS hr;have hz0:(1000000:Nat)<sizeLine:=by decide
   have hsd:∃ kvs,H s=some (.dK kvs):=by obtain⟨kvs,h1,_⟩:=pk.st;exact⟨kvs,h1⟩
   have nes:∀ {b:Addr} {xs:List V},H b=some (.lst xs)→b≠s:=fun {b xs} h e=>by
    obtain⟨kvs,h1⟩:=hsd;rw[e,h1] at h;cases h
   have frm:∀ {v:V} {k':Int} {H1:Hp},Smf s H H1→Pk K H1 s n (aH m "k" (.int k')) a ns k'→bO H1 s (.str "forms") (some (.ref fo))∧H1 fo=some (.lst (fl.map fun x=>V.ref x.1))∧FsV H1 fl:=fun {v k' H1} sm p=>⟨p.st.get (by rw[ah _ _ (by decide +kernel)];exact hfo),sm _ _ (nes hF) hF,hfs.smf sm hne hsd⟩;obtain⟨t9,h9,q9⟩:∃ t,PSs (cE CX0 P w K mg base nFo "_law_form" (a9 sFo) f cdv A outer s' H E).nox ((aQ sFo).drop 9) t ∧
    ∀ (H1:Hp) (k1:Int) (hd nm so:Str) (I:Addr) (zs:List Str) (x6 x7:Option V),Smf s H H1→Pk K H1 s n (aH m "k" (.int k1)) a ns k1→k≤k1→k1≤k+20→(so="record"∨so="function")→H I=none→H1 I=some (.lst (zs.map V.str))→zs.length≤4→(so="record"→0<zs.length) →
     t {nx:=fun _ H'=>Q .non H',rt:=Q} [some (.ref s),some (.int part),some (.int ((num:Nat):Int)),some (.str hd),some (.str nm),some (.str so),x6,x7,some (.ref I),none] H1:=by
    refine⟨_,(pE (pN (i:=9) nd rfl (Or.inl rfl) (be T.len (pA (eE (own:=["_law_form_here"]) (outs:=[ (5,"_law_sort") ]) rfl (aL.of (a9 sFo) nFo) (bq (pM hu (pv 0) pD (fun _ _=>rfl))) (fun _ _ _ _=>⟨(ao (i:=0) Br rfl (Or.inl rfl)),(cC (pO aT (pM hu (pv 0) pD (fun _ _=>rfl)) (pv 1) (pP _))),(pv 0)⟩)) pC))) (pI (au (sH (bB pD (pv 1) (bB pD (pv 3) (bB pD (pv 5) (bB pD (pv 4) (bB pD (pv 8) (bB pD (pv 9) mz)))))) rfl rfl (by simp) (by decide))))),fun H1 k1 hd nm so I zs x6 x7 sm pk1 kl kh hso hI hI1 hzl hz1=>?_⟩;refine a7 fun Dn BQ=>?_;obtain⟨g1,g2,g3⟩:=frm (v:=.non) sm pk1;dsimp only[bC,bH,bG];rw[cH,gQ,cq,cn];refine⟨_,rfl,s,_,rfl,g1,fo,rfl,⟨_,SqL.of g2⟩,fun L hL=>?_⟩;refine b5.by (aK (xs:=fl.map fun x=>V.ref x.1)) (fun j σ Hj=>aj H1 Hj∧Hj L=some (.lst (((fl.take j).filter (bw so)).map fun x=>V.ref x.1))∧∃ y,σ=[y,some (.str so)]) ⟨smu hL,pG,_,rfl⟩ (fun j σ Hj _ z=>SqL.of (z.1 _ _ g2)) ?_ ?_
    · rintro j x σ Hj hxj ⟨sj,hLj,y,rfl⟩;rw[gEM] at hxj;obtain⟨fx,hfx,rfl⟩:=oMS.mp hxj;obtain⟨⟨mf,stf,f1,f2,f3,f4,f5,f6⟩,_⟩:=(g3 fx (mGE hfx)).same sj;have hstep:=di (bw so) hfx;have hlen:((fl.take j).filter (bw so)).length≤1000:=Nat.le_trans (List.length_filter_le _ _) (by rw[lTk];lia);rw[aY];refine⟨_,rfl,fx.1,_,rfl,stf.get f3,_,rfl,rfl,_,rfl,?_⟩;by_cases h1:fx.2.sort=so
      · have ho:bw so fx=true:=by unfold bw;simp[h1]
        exact pL (by simp[h1]) ⟨_,rfl,_,hLj,by rw[lMp];lia,aD sj hL,by rw[pG,hstep,ho];simp,_,rfl⟩
      · have ho:bw so fx=false:=by unfold bw;simp[h1]
        exact pK (by simp[h1]) ⟨sj,by rw[hstep,ho];simpa using hLj,_,rfl⟩
    · rintro σ Hj ⟨sj,hLj,y,rfl⟩;rw[lMp,List.take_length] at hLj;refine⟨L,_,rfl,.inl (SqL.of hLj),?_⟩;refine BQ _ _ ?_;refine fun p hp=>?_;have k2:=smu (o:=HO.dK []) hp;refine⟨_,rfl,_,rfl,_,rfl,_,rfl,_,rfl,_,rfl,pG,[(.inr "part",.int part),(.inr "head",.str hd),(.inr "sort",.str so),(.inr "name",.str nm),(.inr "inner",.ref I),(.inr "number",.int _)],rfl,by show 6≤15;decide,?_⟩;rw[ma];have st:=StV.made (H:=Hj) (f:=p) [("part",.int part),("head",.str hd),("sort",.str so),("name",.str nm),("inner",.ref I),("number",.int ((((fl.filter (bw so)).map fun x=>V.ref x.1).length:Nat):Int))] (n:=10) (by show 6≤10;decide);have e0:(upd Hj p (.dK (bM [] [(.inr "part",.int part),(.inr "head",.str hd),(.inr "sort",.str so),(.inr "name",.str nm),(.inr "inner",.ref I),(.inr "number",.int ((((fl.filter (bw so)).map fun x=>V.ref x.1).length:Nat):Int))])))=(upd Hj p (.dK (bM [] (([("part",.int part),("head",.str hd),("sort",.str so),("name",.str nm),("inner",.ref I),("number",.int ((((fl.filter (bw so)).map fun x=>V.ref x.1).length:Nat):Int))]:List (Str×V)).map fun p=>((Sum.inr p.1:Key),p.2))))):=rfl;rw[e0];have k3:=smu (o:=HO.dK (bM [] (([("part",.int part),("head",.str hd),("sort",.str so),("name",.str nm),("inner",.ref I),("number",.int ((((fl.filter (bw so)).map fun x=>V.ref x.1).length:Nat):Int))]:List (Str×V)).map fun p=>((Sum.inr p.1:Key),p.2)))) hp;generalize (upd Hj p (.dK (bM [] (([("part",.int part),("head",.str hd),("sort",.str so),("name",.str nm),("inner",.ref I),("number",.int ((((fl.filter (bw so)).map fun x=>V.ref x.1).length:Nat):Int))]:List (Str×V)).map fun p=>((Sum.inr p.1:Key),p.2)))))=H3 at st k3 ⊢;have K3:=sj.trans k3;have hps:p≠s:=fun e=>by
       obtain⟨kvs,h1,_⟩:=pk1.st;have:=sj _ _ h1;rw[← e,hp] at this;cases this
      refine q p ⟨part,hd,so,nm,I,zs,_⟩ k1 H3 (sm.trans (Smf.of K3)) ⟨⟨⟨_,st.wide (by decide),rfl,rfl,rfl,rfl,rfl,rfl⟩,K3 _ _ hI1⟩,rfl,?_,hI,⟨hzl,hz1⟩,hso,by rw[lMp],by obtain⟨kvs,h1,h2,_⟩:=st;exact⟨kvs,h1,h2⟩⟩ kl kh (pk1.same K3);exact sm.none (aj.free sj hp) hps
   obtain⟨t7,h7,q7⟩:∃ t,PSs (cE CX0 P w K mg base nFo "_law_form" (a9 sFo) f cdv A outer s' H E).nox ((aQ sFo).drop 7) t ∧
    ∀ (H1:Hp) (k1:Int) (hd nm so:Str) (x6 x7:Option V),Smf s H H1→Pk K H1 s n (aH m "k" (.int k1)) a ns k1→k≤k1→k1≤k+2→(so="record"∧hd="record"∨so="function"∧hd≠"record") →
     t {nx:=fun _ H'=>Q .non H',rt:=Q} [some (.ref s),some (.int part),some (.int ((num:Nat):Int)),some (.str hd),some (.str nm),some (.str so),x6,x7,none,none] H1:=by
    refine⟨_,(pE (pN (i:=8) nd rfl (Or.inl rfl) (ac cs (hr.mono (by decide)) rfl (pA (pv 0) (pA (ag pC) (pA pH pC))))) (pE (aN (PW.pt (b6 (pO aT (pv 3) pD (pP _)) (bh (pO (qh hu) (pv 8) (ag pC) (pP _))))) (pI (pN (i:=8) nd rfl (Or.inl rfl) (ag (pA pD pC)))) aF) h9)),fun H1 k1 hd nm so x6 x7 sm pk1 kl kh hso=>?_⟩;refine a7 fun D5 Ad=>?_;refine⟨_,rfl,f9,fun O hO=>?_⟩;have k2:=smu (o:=HO.lst []) hO;have al2:KL K a ns∨∃ b,(upd H1 O (.lst [])) a=some b:=al.imp_right fun ⟨b,hb⟩=>⟨b,k2 _ _ (sm _ _ pk.ne hb)⟩;refine⟨s,a,O,n,_,ns,k1,[],4,rfl,pk1.same k2,al2,by lia,pG,by decide,fun W zs k' H3 c1 c2 hzl hzn hW hW3 sm3 p3=>?_⟩;refine Ad _ _ ?_;rw[bR] at p3;have sm3':Smf s H H3:=sm.trans ((Smf.of k2).trans sm3);have hs2:=(pk1.same k2).st.ne hW;have hWn:H W=none:=sm.none (aj.free k2 hW) hs2;refine⟨_,rfl,rfl,_,rfl,?_⟩;by_cases hh:hd="record"
    · refine pL (by simp[hh]) ⟨_,rfl,f9,fun e0 he=>?_⟩;have k4:=smu (o:=HO.lst []) he;refine⟨W,e0,_,rfl,rfl,SqL.of (k4 _ _ hW3),SqL.of pG,_,rfl,?_⟩;generalize upd H3 e0 (.lst [])=H4 at k4 ⊢;have so1:so="record":=hso.elim (fun z=>z.1) fun z=>absurd hh z.2;cases zs with
      | nil =>
       refine bj ⟨eC,fun Z hZ=>?_⟩;have k5:=smu (o:=HO.lst [V.str "z"]) hZ;have hZs:=(p3.same k4).st.ne hZ;have hZn:H Z=none:=sm3'.none (aj.free k4 hZ) hZs;exact q9 _ k' hd nm so Z ["z"] _ _ (sm3'.trans (Smf.of (k4.trans k5))) (p3.same (k4.trans k5)) (by lia) (by lia) (.inl so1) hZn pG (by decide) (fun _=>by decide)
      | cons z0 zr =>
       exact aU (q9 _ k' hd nm so W (z0::zr) _ _ (sm3'.trans (Smf.of k4)) (p3.same k4) (by lia) (by lia) (.inl so1) hWn (k4 _ _ hW3) hzl (fun _=>Nat.succ_pos _))
    · refine pK (by simp[hh]) (aU ?_);have so1:so="function":=hso.elim (fun z=>absurd z.2 hh) fun z=>z.1;exact q9 _ k' hd nm so W zs _ _ sm3' p3 (by lia) (by lia) (.inr so1) hWn hW3 hzl (fun e=>by rw[so1] at e;exact absurd e (by decide +kernel))
   obtain⟨t4,h4,q4⟩:∃ t,PSs (cE CX0 P w K mg base nFo "_law_form" (a9 sFo) f cdv A outer s' H E).nox ((aQ sFo).drop 4) t ∧
    ∀ (H1:Hp) (k1:Int) (hd nm so:Str),Smf s H H1→Pk K H1 s n (aH m "k" (.int k1)) a ns k1→k≤k1→k1≤k+2→(so="record"∧hd="record"∨so="function"∧hd≠"record") →
     t {nx:=fun _ H'=>Q .non H',rt:=Q} [some (.ref s),some (.int part),some (.int ((num:Nat):Int)),some (.str hd),some (.str nm),some (.str so),none,none,none,none] H1:=by
    refine⟨_,(pE (gc (i0:=6) (own:=["_law_form_here"]) (outs:=[ (1,"_law_part"),(5,"_law_sort"),(4,"_law_name_here") ]) rfl (aL.of (a9 sFo) nFo) (bq (pM hu (pv 0) pD (fun _ _=>rfl))) (fun _ _ _ _=>⟨(ao (i:=0) Bv rfl (Or.inl rfl)),(cC (PW.pt (b6 (pO aT (pM hu (pv 0) pD (fun _ _=>rfl)) (pv 1) (pP _)) (b6 (pO aT (pM hu (pv 0) pD (fun _ _=>rfl)) (pv 2) (pP _)) (bh (pO aT (pM hu (pv 0) pD (fun _ _=>rfl)) (pv 3) (pP _))))))),(pv 0)⟩) nd rfl rfl) (pE (gc (i0:=7) (own:=["_law_form_here"]) (outs:=[ (4,"_law_name_here") ]) rfl (aL.of (a9 sFo) nFo) (bq (pM hu (pv 0) pD (fun _ _=>rfl))) (fun _ _ _ _=>⟨(ao (i:=0) Bu rfl (Or.inl rfl)),(cC (PW.pt (b6 (pO aT (pM hu (pv 0) pD (fun _ _=>rfl)) pD (pP _)) (bh (pO aT (pM hu (pv 0) pD (fun _ _=>rfl)) (pv 1) (pP _)))))),(pv 0)⟩) nd rfl rfl) (pE (aN (PW.pt (fw (pO (fV hu) (pv 6) (ag pC) (pP _)) (dk (PW.pt (b6 (pO aT (pv 3) pD (pP _)) (bh (pO (fV hu) (pv 7) (ag pC) (pP _)))))))) (pI (pN (i:=4) nd rfl (Or.inr rfl) (aC lq pD (am qr pD (pv 2) (fun _ _=>rfl))))) aF) h7))),fun H1 k1 hd nm so sm pk1 kl kh hso=>?_⟩;refine a7 fun CY A9=>?_;obtain⟨g1,g2,g3⟩:=frm (v:=.non) sm pk1;dsimp only[bC,bH,bG];rw[cH,cn];refine⟨_,rfl,s,_,rfl,g1,fo,rfl,⟨_,SqL.of g2⟩,fun L hL=>?_⟩;refine b5.by (aK (xs:=fl.map fun x=>V.ref x.1)) (fun j σ Hj=>aj H1 Hj∧(∃ ys,Hj L=some (.lst ys)∧ys.length≤j)∧∃ y,σ=[y,some (.int part),some (.str so),some (.str nm)]) ⟨smu hL,⟨[],pG,Nat.le_refl _⟩,_,rfl⟩ (fun j σ Hj _ z=>SqL.of (z.1 _ _ g2)) ?_ ?_
    · rintro j x σ Hj hxj ⟨sj,⟨ys,hLj,hyl⟩,y,rfl⟩;have hj:j<fl.length:=by have:=(gES.mp hxj).1;rwa [lMp] at this
      rw[gEM] at hxj;obtain⟨fx,hfx,rfl⟩:=oMS.mp hxj;obtain⟨⟨mf,stf,f1,f2,f3,f4,f5,f6⟩,_⟩:=(g3 fx (mGE hfx)).same sj;rw[aY];refine⟨_,rfl,fx.1,_,rfl,stf.get f1,_,rfl,rfl,_,rfl,?_⟩;split
      · refine⟨_,rfl,fx.1,_,rfl,stf.get f3,_,rfl,rfl,_,rfl,?_⟩;split
        · refine⟨_,rfl,fx.1,_,rfl,stf.get f4,_,rfl,rfl,_,rfl,?_⟩;split
          · exact⟨_,rfl,_,hLj,(by lia),aD sj hL,⟨_,pG,by simp;assumption⟩,_,rfl⟩
          · exact⟨sj,⟨ys,hLj,(by lia)⟩,_,rfl⟩
        · exact aU ⟨sj,⟨ys,hLj,(by lia)⟩,_,rfl⟩
      · exact aU ⟨sj,⟨ys,hLj,(by lia)⟩,_,rfl⟩
    · rintro σ Hj ⟨sj,⟨ys,hLj,hyl⟩,y,rfl⟩;refine A9 _ _ (a7 fun zJ qA=>?_);have g2j:=sj _ _ g2;have g3j:=g3.same sj;have smj:=sm.trans (Smf.of sj);have pkj:=pk1.same sj;dsimp only;rw[cH,cn];refine⟨_,rfl,s,_,rfl,(frm (v:=.non) smj pkj).1,fo,rfl,⟨_,SqL.of g2j⟩,fun M hM=>?_⟩;refine b5.by (aK (xs:=fl.map fun x=>V.ref x.1)) (fun j σ Hk=>aj Hj Hk∧(∃ ys,Hk M=some (.lst ys)∧ys.length≤j)∧∃ y,σ=[y,some (.str nm)]) ⟨smu hM,⟨[],pG,Nat.le_refl _⟩,_,rfl⟩ (fun j σ Hk _ z=>SqL.of (z.1 _ _ g2j)) ?_ ?_
      · rintro j x σ Hk hxj ⟨sk,⟨zs,hMk,hzl⟩,y,rfl⟩;have hj:j<fl.length:=by have:=(gES.mp hxj).1;rwa [lMp] at this
        rw[gEM] at hxj;obtain⟨fx,hfx,rfl⟩:=oMS.mp hxj;obtain⟨⟨mf,stf,f1,f2,f3,f4,f5,f6⟩,_⟩:=(g3j fx (mGE hfx)).same sk;rw[aY];refine⟨_,rfl,fx.1,_,rfl,stf.get f2,rfl,_,rfl,?_⟩;split
        · refine⟨_,rfl,fx.1,_,rfl,stf.get f4,_,rfl,rfl,_,rfl,?_⟩;split
          · exact⟨_,rfl,_,hMk,(by lia),aD sk hM,⟨_,pG,by simp;assumption⟩,_,rfl⟩
          · exact⟨sk,⟨zs,hMk,(by lia)⟩,_,rfl⟩
        · exact aU ⟨sk,⟨zs,hMk,(by lia)⟩,_,rfl⟩
      · rintro σ Hk ⟨sk,⟨zs,hMk,hzl⟩,y,rfl⟩;refine qA _ _ ?_;have smk:=smj.trans (Smf.of sk);have pkk:=pkj.same sk;have hLk:=sk _ _ hLj;have fin:∀ (He:Hp) (nm':Str),aj Hk He→t7 {nx:=fun _ H'=>Q .non H',rt:=Q} [some (.ref s),some (.int part),some (.int ((num:Nat):Int)),some (.str hd),some (.str nm'),some (.str so),some (.ref L),some (.ref M),none,none] He:=fun He nm' se=>q7 He k1 hd nm' so _ _ (smk.trans (Smf.of se)) (pkk.same se) kl kh hso;obtain⟨c,hc⟩:∃ c,atI (("abcdefghijklmnop":Str).cps.toList) ((num:Nat):Int)=some c:=by
         have hl:num<(("abcdefghijklmnop":Str).cps.toList).length:=by
          have:(("abcdefghijklmnop":Str).cps.toList).length=16:=by decide +kernel
          lia
         exact⟨_,pJ (gEE hl)⟩
        have hul:("u":Str).length+(⟨#[c]⟩:Str).length≤sizeLine:=by
         have h1:("u":Str).length=1:=by decide +kernel
         have h2:(⟨#[c]⟩:Str).length=1:=rfl;lia
        refine⟨_,rfl,f9,fun e0 he=>?_⟩;have k5:=smu (o:=HO.lst []) he;refine⟨L,e0,_,rfl,rfl,SqL.of (k5 _ _ hLk),SqL.of pG,_,rfl,?_⟩;generalize upd Hk e0 (.lst [])=H5 at k5 ⊢;cases hys:(!ys.isEmpty) with
        | true=>exact bj (bj ⟨_,rfl,_,_,c,rfl,rfl,by decide +kernel,hc,_,_,rfl,rfl,hul,fin H5 _ k5⟩)
        | false =>
         refine aU ⟨_,rfl,rfl,_,rfl,?_⟩;split
         · refine⟨_,rfl,f9,fun e1 he1=>?_⟩;have k6:=smu (o:=HO.lst []) he1;refine⟨M,e1,_,rfl,rfl,SqL.of (k6 _ _ (k5 _ _ hMk)),SqL.of pG,_,rfl,?_⟩;generalize upd H5 e1 (.lst [])=H6 at k6 ⊢;split
           · exact⟨_,rfl,_,_,c,rfl,rfl,by decide +kernel,hc,_,_,rfl,rfl,hul,fin H6 _ (k5.trans k6)⟩
           · exact fin H6 _ (k5.trans k6)
         · exact aU (fin H5 _ k5)
   refine⟨_,(pE (pN (i:=3) nd rfl (Or.inl rfl) (am aG (ag (pA pD (pA pD (pA pD (pA pD (pA pD pC)))))) (ac ab (hr.mono (by decide)) rfl (pA (pv 0) (pA pH pC))) (fun _ _=>rfl))) (pE (pN (i:=4) nd rfl (Or.inr rfl) (am aG (ag (pA pD (pA pD (pA pD (pA pD (pA pD (pA pD pC))))))) (ac ab (hr.mono (by decide)) rfl (pA (pv 0) (pA pH pC))) (fun _ _=>rfl))) (pE (pN (i:=5) nd rfl (Or.inr rfl) pD) (pE (aN (pO aT (pv 3) pD (pP _)) (pI (pN (i:=5) nd rfl (Or.inr rfl) pD)) aF) h4)))),?_⟩;dsimp only[bC,bH,bG];refine a7 fun CJ zX=>?_;refine⟨AV,fun L hL=>?_⟩;have k1:=smu (o:=HO.lst [V.str "record",V.str "function",V.str "function",V.str "deep",V.str "open"]) hL;have hL1:(upd H L (.lst [V.str "record",V.str "function",V.str "function",V.str "deep",V.str "open"])) L=some (.lst [V.str "record",V.str "function",V.str "function",V.str "deep",V.str "open"]):=pG;have Ls:=pk.st.ne hL;generalize upd H L (.lst [V.str "record",V.str "function",V.str "function",V.str "deep",V.str "open"])=H1 at k1 hL1 ⊢;have p1:=pk.same k1;refine⟨_,rfl,s,a,n,m,ns,k,5,rfl,p1.st,p1.hn,p1.sc,p1.ne,p1.sq,p1.len,p1.hk,p1.k0,by lia,by decide,fun r2 H2 r20 r21 mo2 st2=>?_⟩;have p2:=p1.next mo2 st2;obtain⟨j2,rfl⟩:=Int.eq_ofNat_of_zero_le r20;obtain⟨hd,hhd⟩:∃ hd:Str,([V.str "record",V.str "function",V.str "function",V.str "deep",V.str "open"]:List V)[j2]?=some (.str hd):=by
    rcases (show j2=0∨j2=1∨j2=2∨j2=3∨j2=4 by lia) with rfl | rfl | rfl | rfl | rfl <;> exact⟨_,rfl⟩
   refine⟨L,_,_,.str hd,rfl,rfl,SqL.of (by rw[mo2 L Ls];exact hL1),pJ hhd,?_⟩;refine zX _ _ (a7 fun CH zV=>?_);refine⟨Dg,fun M hM=>?_⟩;have k3:=smu (o:=HO.lst [V.str "f",V.str "g",V.str "fg",V.str "a",V.str "ab",V.str "gggggggg"]) hM;have hM3:(upd H2 M (.lst [V.str "f",V.str "g",V.str "fg",V.str "a",V.str "ab",V.str "gggggggg"])) M=some (.lst [V.str "f",V.str "g",V.str "fg",V.str "a",V.str "ab",V.str "gggggggg"]):=pG;have Ms:=p2.st.ne hM;generalize upd H2 M (.lst [V.str "f",V.str "g",V.str "fg",V.str "a",V.str "ab",V.str "gggggggg"])=H3 at k3 hM3 ⊢;have p3:=p2.same k3;refine⟨_,rfl,s,a,n,_,ns,k+1,6,rfl,p3.st,p3.hn,p3.sc,p3.ne,p3.sq,p3.len,p3.hk,p3.k0,(by lia),by decide,fun r4 H4 r40 r41 mo4 st4=>?_⟩;have p4:=p3.next mo4 st4;obtain⟨j4,rfl⟩:=Int.eq_ofNat_of_zero_le r40;obtain⟨nm,hnm⟩:∃ nm:Str,([V.str "f",V.str "g",V.str "fg",V.str "a",V.str "ab",V.str "gggggggg"]:List V)[j4]?=some (.str nm):=by
    rcases (show j4=0∨j4=1∨j4=2∨j4=3∨j4=4∨j4=5 by lia) with rfl | rfl | rfl | rfl | rfl | rfl <;> exact⟨_,rfl⟩
   refine⟨M,_,_,.str nm,rfl,rfl,SqL.of (by rw[mo4 M Ms];exact hM3),pJ hnm,?_⟩;refine zV _ _ (a7 fun CG zU=>?_);rw[bR] at p4;refine zU _ _ ?_;have sm4:Smf s H H4:=(Smf.of k1).trans ((Smf.mo mo2).trans ((Smf.of k3).trans (Smf.mo mo4)));refine⟨_,rfl,rfl,_,rfl,?_⟩;by_cases hh:hd="record"
   · exact pL (by simp[hh]) (q4 H4 _ hd nm "record" sm4 p4 (by lia) (by lia) (.inl ⟨rfl,hh⟩))
   · exact pK (by simp[hh]) (q4 H4 _ hd nm "function" sm4 p4 (by lia) (by lia) (.inr ⟨rfl,hh⟩))
end
def Sm2 (s fo:Addr) (H H':Hp):Prop:=∀ b o,b≠s→b≠fo→H b=some o→H' b=some o
theorem Sm2.smf {s fo:Addr} {H H1 H2:Hp} (x:Sm2 s fo H H1) (y:Smf s H1 H2):Sm2 s fo H H2:=fun b o h1 h2 e=>y b o h1 (x b o h1 h2 e)
theorem Sm2.put {s fo:Addr} {H H1:Hp} {o':HO} (x:Sm2 s fo H H1):Sm2 s fo H (upd H1 fo o'):=fun b o h1 h2 e=>by rw[aa h2];exact x b o h1 h2 e
structure iF (H0 H:Hp) (np:Nat) (fl:FL):Prop where
  fv:FsV H fl
  new:∀ x∈fl,H0 x.1=none∧H0 x.2.inner=none
  pt:∀ x∈fl,∃ p:Nat,p<np∧x.2.part=((p:Nat):Int)
  inn:∀ x∈fl,x.2.inn.length≤4∧(x.2.sort="record"→0<x.2.inn.length)
  so:∀ x∈fl,x.2.sort="record"∨x.2.sort="function"
  num:∀ i x,fl[i]?=some x→x.2.number=((((fl.take i).filter (bw x.2.sort)).length:Nat):Int)
  few:∀ x∈fl,∃ kvs,H x.1=some (.dK kvs)∧kvs.length≤10
  nd:(fl.map (·.1)).Nodup
theorem iF.nil (H0 H:Hp) (np:Nat):iF H0 H np []:=⟨fun x hx=>absurd hx nMN,fun x hx=>absurd hx nMN,fun x hx=>absurd hx nMN,fun x hx=>absurd hx nMN,fun x hx=>absurd hx nMN,fun i x h=>(by simp at h),fun x hx=>absurd hx nMN,List.nodup_nil⟩
theorem iF.snoc {H0 H H':Hp} {np:Nat} {fl:FL} {f:Addr} {fm:Frm} {p:Nat} (h:iF H0 H np fl) (fs':FsV H' fl) (hn:Az H0 H' f fm ((p:Nat):Int) fl) (hp:p<np) (few':∀ x∈fl,∃ kvs,H' x.1=some (.dK kvs)∧kvs.length≤10) (hf:∀ x∈fl,x.1≠f):iF H0 H' np (fl++[(f,fm)]):=by
 have mem:∀ {P:Addr×Frm→Prop},(∀ x∈fl,P x)→P (f,fm)→∀ x∈fl++[(f,fm)],P x:=fun {P} h1 h2 x hx=>by
  rcases mAp.mp hx with hx | hx
  · exact h1 x hx
  · rw[mSg.mp hx];exact h2
 refine⟨mem fs' hn.fv,mem h.new ⟨hn.new,hn.newI⟩,mem h.pt ⟨p,hp,hn.pt⟩,mem h.inn hn.inn,mem h.so hn.so,fun i x hx=>?_,mem few' hn.few,?_⟩
 rotate_left
 · rw[List.map_append,List.nodup_append];refine⟨h.nd,by simp,fun a ha b hb e=>?_⟩;obtain⟨x,hx,rfl⟩:=List.mem_map.mp ha;rw[mSg.mp hb] at e;exact hf x hx e
 by_cases hi:i<fl.length
 · rw[List.getElem?_append_left hi] at hx;rw[List.take_append_of_le_length (Nat.le_of_lt hi)];exact h.num i x hx
 · have hl:=(gES.mp hx).1;rw[lAp] at hl;have hl':i<fl.length+1:=hl;have:i=fl.length:=by lia
   subst this;rw[List.getElem?_append_right (Nat.le_refl _),Nat.sub_self] at hx;cases hx;rw[List.take_append_of_le_length (Nat.le_refl _),List.take_length];exact hn.num
section
variable {P:Program} {w:World} {K:Fg} {mg:SOV} {base:Heap}
abbrev sHe:Stmt:=top 20
abbrev nHe:List Str:=["_law_state","_law_part","_law_k"]
theorem yj:ax nHe ["_law_state"] (a9 sHe):=fsM
inductive uE (K:Fg) (vs:List V) (H:Hp) (Q:VK):Prop
  | mk (s a fo ro:Addr) (rs:List Addr) (n:Nat) (m:Str→Option V) (ns:List Int) (k:Int) (g0_:vs=[.ref s]) (g1_:Pk K H s n m a ns k) (g2_:(KL K a ns∨∃ b,H a=some b)) (g3_:(KL K a ns∨fo≠a)) (g4_:k<100) (g5_:m "forms"=some (.ref fo)) (g6_:H fo=some (.lst [])) (g7_:m "rows"=some (.ref ro)) (g8_:H ro=some (.lst (rs.map V.ref))) (g9_:fo≠ro) (g10_:rs.length≤3) (g11_:∀ fl k' H',Sm2 s fo H H'→H' fo=some (.lst (fl.map fun x=>V.ref x.1))→iF H H' rs.length fl→fl.length≤9→k≤k'→k'≤k+200→Pk K H' s n (aH m "k" (.int k')) a ns k'→Q .non H'):uE K vs H Q
def xI (K:Fg):Sp:=fun vs H Q _=>uE K vs H Q
theorem zp (D:Def K mg "_law_heads" sHe) (T:Blt mg) (ab:Fn P w K mg base "_law_pick" 2 ["_law_state","_law_many"] (iw K)) (lW:Fn P w K mg base "_law_form" 5 vA (xJ K)):Fn P w K mg base "_law_heads" 6 ["_law_state"] (xI K):=by
 refine D.fn yj (fun vs H Q E h=>?_) (fun _ _ _ _ _ _ us hl=>by obtain⟨a,rfl⟩:=eo hl;rfl) (fun f cdv A outer s' H vs Q E hr h=>?_)
 · obtain⟨s,a,fo,ro,rs,n,m,ns,k,rfl,_⟩:=h;rfl
 · obtain⟨s,a,fo,ro,rs,n,m,ns,k,rfl,pk,al,foa,hk,hfo,hF,hro,hR,fr,hrl,q⟩:=h;have nd:=yj.nd;have hu:=bS hr;have hz0:(1000000:Nat)<sizeLine:=by decide
   have hsd:∃ kvs,H s=some (.dK kvs):=by obtain⟨kvs,h1,_⟩:=pk.st;exact⟨kvs,h1⟩
   have nes:∀ {b:Addr} {xs:List V},H b=some (.lst xs)→b≠s:=fun {b xs} h e=>by
    obtain⟨kvs,h1⟩:=hsd;rw[e,h1] at h;cases h
   refine⟨_,(pI (bx PassesOwn.never rfl (bL rfl T.range (pA (be T.len (pA (pM hu (pv 0) pD (fun _ _=>rfl)) pC)) pC)) (ao (i:=1) nd rfl (Or.inl rfl)) (pI (bx PassesOwn.never rfl (bL rfl T.range (pA (ac ab (hr.mono (by decide)) rfl (pA (pv 0) (pA pH pC))) pC)) (ao (i:=2) nd rfl (Or.inl rfl)) (pI (ak (aV (pM hu (pv 0) pD (fun _ _=>rfl)) (pA (ac lW (hr.mono (by decide)) rfl (pA (pv 0) (pA (pv 1) (pA (be T.len (pA (pM hu (pv 0) pD (fun _ _=>rfl)) pC)) pC)))) pC)))))))),?_⟩;dsimp only[bC,bH,bG];refine⟨_,rfl,s,_,rfl,pk.st.get hro,ro,_,rfl,.inl (SqL.of hR),_,rfl,by rw[lMp];lia,by rw[lMp];lia,?_⟩;rw[lMp,show ((rs.length:Nat):Int).toNat=rs.length from Int.toNat_natCast _];show aA _ _ _ _ _ _;refine aA.byN (bv (n:=rs.length)) (fun i σ Hi=>Sm2 s fo H Hi∧(∃ fl k',Hi fo=some (.lst (fl.map fun x=>V.ref x.1))∧iF H Hi rs.length fl∧fl.length≤3*i∧k≤k'∧k'≤k+61*((i:Nat):Int)∧Pk K Hi s n (aH m "k" (.int k')) a ns k')∧∃ x1 x2,σ=[some (.ref s),x1,x2])
    ⟨fun b o _ _ e=>e,⟨[],k,hF,iF.nil _ _ _,Nat.zero_le _,Int.le_refl _,by simp,?_⟩,_,_,rfl⟩ (fun _ _ _ _ _=>trivial) ?_ ?_
   · have e:aH m "k" (.int k)=m:=by
      funext y
      unfold aH;by_cases h:y="k"
      · rw[if_pos h,h,pk.hk]
      · rw[if_neg h]
     rw[e];exact pk
   · rintro i x σ Hi By B_ wb hB_ hx ⟨sm,⟨fl,k1,hfi,hok,hll,c1,c2,pi⟩,x1,x2,rfl⟩;have hic:i<rs.length:=by have:=(gES.mp hx).1;rw[bp] at this;exact this
     obtain rfl:=e9 hx;refine⟨_,rfl,s,a,n,_,ns,k1,4,rfl,pi.st,pi.hn,pi.sc,pi.ne,pi.sq,pi.len,pi.hk,pi.k0,by lia,by decide,fun r H2 r0 r1 mo2 st2=>?_⟩;have p2:=pi.next mo2 st2;rw[bR] at p2;obtain⟨c,rfl⟩:=Int.eq_ofNat_of_zero_le r0;refine⟨_,rfl,(by lia),(by lia),?_⟩;rw[show ((c:Nat):Int).toNat=c from Int.toNat_natCast c];have foi:fo≠s:=nes hF;have ali:KL K a ns∨∃ b,Hi a=some b:=by
      rcases al with z | ⟨b,hb⟩
      · exact .inl z
      · by_cases e:a=fo
        · exact .inr ⟨_,by rw[e];exact hfi⟩
        · exact .inr ⟨b,sm _ _ pk.ne e hb⟩
     have sdi:∃ kvs,Hi s=some (.dK kvs):=by obtain⟨kvs,h1,_⟩:=pi.st;exact⟨kvs,h1⟩
     have nei:∀ y∈fl,y.1≠s:=fun y hy e=>by
      obtain⟨kvs,h1⟩:=hsd;have:=(hok.new y hy).1;rw[e,h1] at this;cases this
     have foy:∀ {b:Addr},H b=none→b≠fo:=fun {b} hb e=>by rw[e,hF] at hb;cases hb
     show aA _ _ _ _ _ _;refine aA.byN (bv (n:=c)) (fun j σ Hj=>Sm2 s fo H Hj∧(∃ fl k',Hj fo=some (.lst (fl.map fun x=>V.ref x.1))∧iF H Hj rs.length fl∧fl.length≤3*i+j∧k≤k'∧k'≤k+61*((i:Nat):Int)+1+20*((j:Nat):Int)∧Pk K Hj s n (aH m "k" (.int k')) a ns k'∧(KL K a ns∨∃ b,Hj a=some b))∧∃ x2,σ=[some (.ref s),some (.int ((i:Nat):Int)),x2])
      ⟨sm.smf (Smf.mo mo2),⟨fl,k1+1,by rw[mo2 fo foi];exact hfi,⟨hok.fv.smf (Smf.mo mo2) nei sdi,hok.new,hok.pt,hok.inn,hok.so,hok.num,fun y hy=>(hok.few y hy).imp fun kvs z=>⟨(Smf.mo mo2) _ _ (nei y hy) z.1,z.2⟩,hok.nd⟩,(by lia),(by lia),by lia,p2,ali.imp_right fun ⟨b,hb⟩=>⟨b,by rw[mo2 a pi.ne];exact hb⟩⟩,_,rfl⟩ (fun _ _ _ _ _=>trivial) ?_ ?_
     · rintro j x σ Hj N_ B_ hN_ hB_ hx ⟨sm,⟨fl,k2,hfj,hok,hll,c1,c2,pj,alj⟩,x2,rfl⟩;have hjc:j<c:=by have:=(gES.mp hx).1;rw[bp] at this;exact this
       have gj:bO Hj s (.str "forms") (some (.ref fo)):=pj.st.get (by rw[ah _ _ (by decide +kernel)];exact hfo);have nej:∀ y∈fl,y.1≠s:=fun y hy e=>by
        obtain⟨kvs,h1⟩:=hsd;have:=(hok.new y hy).1;rw[e,h1] at this;cases this
       refine⟨_,rfl,s,_,rfl,gj,.inl ⟨rfl,_,SqL.of hfj⟩,_,rfl,_,rfl,_,rfl,s,_,rfl,gj,fo,_,rfl,.inl (SqL.of hfj),?_⟩;refine⟨s,a,fo,n,_,ns,k2,fl,((i:Nat):Int),fl.length,by rw[lMp];rfl,by lia,pj,alj,by lia,by rw[ah _ _ (by decide +kernel)];exact hfo,hfj,hok.fv,by lia,nej,fun f3 fm k3 H3 sm3 new3 e1 e2 p3=>?_⟩;rw[bR] at p3;have hf3:=sm3 _ _ foi hfj;have sdj:∃ kvs,Hj s=some (.dK kvs):=by obtain⟨kvs,h1,_⟩:=pj.st;exact⟨kvs,h1⟩
       have fs3:=hok.fv.smf sm3 nej sdj;have newH:∀ {b:Addr},Hj b=none→H b=none:=fun {b} hb=>by
        cases hq:H b with
        | none=>rfl
        | some o =>
         have bs:b≠s:=fun e=>by obtain⟨kvs,h1⟩:=sdj;rw[e,h1] at hb;cases hb
         have bf:b≠fo:=fun e=>by rw[e,hfj] at hb;cases hb
         rw[sm b o bs bf hq] at hb;cases hb
       have hfn:=newH new3.new;have hin:=newH new3.newI;refine⟨fo,_,_,rfl,rfl,hf3,by rw[lMp];lia,hN_ _ _ ⟨(sm.smf sm3).put,⟨fl++[(f3,fm)],k3,by rw[pG,List.map_append];rfl,?_,by simp;lia,by lia,by lia,p3.put hf3 foa,?_⟩,_,rfl⟩⟩
       · have stay:∀ {g:Addr} {gm:Frm},iq H3 g gm→H gm.inner=none→iq (upd H3 fo (.lst ((fl.map fun x=>V.ref x.1)++[V.ref f3]))) g gm:=fun {g gm} fv hi=>by
          obtain⟨⟨mf,⟨kvs,h1,h2⟩,r⟩,i1⟩:=fv;exact⟨⟨mf,⟨kvs,by rw[aa fun e=>by rw[e,hf3] at h1;cases h1];exact h1,h2⟩,r⟩,by rw[aa (foy hi)];exact i1⟩
         refine hok.snoc (fun y hy=>stay (fs3 y hy) (hok.new y hy).2) ⟨stay new3.fv hin,new3.pt,hfn,hin,new3.inn,new3.so,new3.num,?_⟩ hic (fun y hy=>?_) fun y hy e=>?_
         · obtain⟨kvs,h1,h2⟩:=new3.few;exact⟨kvs,by rw[aa (foy hfn)];exact h1,h2⟩
         · obtain⟨kvs,h1,h2⟩:=hok.few y hy;exact⟨kvs,by rw[aa (foy (hok.new y hy).1)];exact sm3 _ _ (nej y hy) h1,h2⟩
         · obtain⟨kvs,h1,_⟩:=hok.few y hy;have:=new3.new;rw[← e,h1] at this;cases this
       · rcases alj with z | ⟨b,hb⟩
         · exact .inl z
         · by_cases e:a=fo
           · exact .inr ⟨_,by rw[e];exact pG⟩
           · exact .inr ⟨b,by rw[aa e];exact sm3 _ _ pk.ne hb⟩
     · rintro σ Hj ⟨sm,⟨fl,k2,hfj,hok,hll,c1,c2,pj,alj⟩,x2,rfl⟩;refine wb _ _ ?_;rw[bp] at hll c2;exact⟨sm,⟨fl,k2,hfj,hok,by lia,c1,by lia,pj⟩,_,_,rfl⟩
   · rintro σ Hi ⟨sm,⟨fl,k1,hfi,hok,hll,c1,c2,pi⟩,x1,x2,rfl⟩;rw[bp] at hll c2;exact q fl k1 Hi sm hfi hok (by lia) c1 (by lia) pi
end
abbrev C0 (A:Adr) (ns:List Int) (fo:Addr) (fl:FL):Ctx:=⟨A,0,ns,fo,fl,0,A.s,0,""⟩
structure SG (P:Program) (w:World) (K:Fg) (H:Hp) (A:Adr) (n:Nat) (ns:List Int) (fo:Addr) (fl:FL) (N:Nat) (skv:NKV):Prop where
  ex:∃ m k B,SI P w K H A n m ns k B skv∧k≤((N:Nat):Int)∧B≤N∧m "forms"=some (.ref fo)
  fe:FE H (C0 A ns fo fl)
def cW (A:Adr) (f:Addr) (H H':Hp):Prop:=∀ b o,b≠f→b≠A.s→b∉A.rs→b≠A.th→b≠A.no→b≠A.sp→b≠A.se→H b=some o→H' b=some o
theorem cW.of {A:Adr} {f:Addr} {H H':Hp} (k:ae A H H'):cW A f H H':=fun b o _ h1 h2 h3 h4 h5 h6 e=>k b o h1 h2 h3 h4 h5 h6 e
theorem cW.trans {A:Adr} {f:Addr} {H H1 H2:Hp} (x:cW A f H H1) (y:cW A f H1 H2):cW A f H H2:=fun b o h0 h1 h2 h3 h4 h5 h6 e=>y b o h0 h1 h2 h3 h4 h5 h6 (x b o h0 h1 h2 h3 h4 h5 h6 e)
theorem cW.mo {A:Adr} {f:Addr} {H H':Hp} (mo:Mo H f H'):cW A f H H':=fun b o h0 _ _ _ _ _ _ e=>by rw[mo b h0];exact e
theorem FE.cast {H:Hp} {C C':Ctx} (f:FE H C) (h1:C.A=C'.A) (h2:C.fo=C'.fo) (h3:C.fl=C'.fl):FE H C':=by
 obtain⟨A,n,ns,fo,fl,p,r,fn,hd⟩:=C;obtain⟨A',n',ns',fo',fl',p',r',fn',hd'⟩:=C';cases h1;cases h2;cases h3;exact⟨f.fv,f.fs,f.le,f.nfo,f.nf,f.inn⟩
section
variable {P:Program} {w:World} {K:Fg} {H H':Hp} {A:Adr} {n:Nat} {m:Str→Option V} {ns:List Int} {k:Int} {B:Nat} {skv:NKV}
theorem SI.wide (x:SI P w K H A n m ns k B skv) {n':Nat} (h:n≤n') (h':n'≤1000):SI P w K H A n' m ns k B skv:={x with pk:=⟨x.pk.st.wide h,h',x.pk.sc,x.pk.ne,x.pk.sq,x.pk.len,x.pk.hk,x.pk.k0⟩}
theorem SI.newk (x:SI P w K H A n m ns k B skv) (hn:n<1000) {y:Str} (v:V) (hy:y≠"script"∧y≠"k"∧y≠"rows"∧y≠"things"∧y≠"nodes"∧y≠"spans"∧y≠"seen"):∃ H',dI H A.s (.str y) v H'∧Mo H A.s H'∧SI P w K H' A (n+1) (aH m y v) ns k B skv:=by
 obtain⟨H',dp,mo,st⟩:=x.pk.st.new y v x.pk.hn;obtain⟨h1,h2,h3,h4,h5,h6,h7⟩:=hy;have nk:∀ {z:Str},y≠z→aH m y v z=m z:=fun {z} hz=>ah m _ (Ne.symm hz);have x':=x.wide (n':=n+1) (Nat.le_succ n) hn;exact⟨H',dp,mo,x'.put mo ⟨st,hn,by rw[nk h1];exact x.pk.sc,x.pk.ne,SqL.mo x.pk.sq mo x.pk.ne,x.pk.len,by rw[nk h2];exact x.pk.hk,x.pk.k0⟩ (nk h3) (nk h4) (nk h5) (nk h6) (nk h7)⟩
theorem SI.mof (x:SI P w K H A n m ns k B skv) {f:Addr} {kvs kvs':List (Key×V)} (hf:H f=some (.dK kvs)) (hfs:f≠A.s):SI P w K (upd H f (.dK kvs')) A n m ns k B skv:=by
 have kp:∀ {b:Addr} {o:HO},H b=some o→(∀ kvs,o≠.dK kvs)→(upd H f (.dK kvs')) b=some o:=fun {b o} h hd=>by
  rw[aa fun e=>by rw[e,hf] at h;exact hd _ (Option.some.inj h).symm];exact h
 have kt:∀ c ys,H c=some (.tup ys)→(upd H f (.dK kvs')) c=some (.tup ys):=fun c ys h=>kp h fun kvs z=>nomatch z;obtain⟨kv,hs,hn,hv⟩:=x.pk.st;have sq':SqL K (upd H f (.dK kvs')) A.a (ns.map V.int):=by
  rcases x.pk.sq with (z | ⟨o,z⟩) | z
  · exact .inl (.inl (kp z fun kvs z=>nomatch z))
  · exact .inl (.inr ⟨o,kp z fun kvs z=>nomatch z⟩)
  · exact .inr z
 exact
 { pk:=⟨⟨kv,by rw[aa (Ne.symm hfs)];exact hs,hn,hv⟩,x.pk.hn,x.pk.sc,x.pk.ne,sq',x.pk.len,x.pk.hk,x.pk.k0⟩
   al:=x.al.imp_right fun ⟨b,hb⟩=>by
     by_cases e:A.a=f
     · exact⟨_,by rw[e];exact pG⟩
     · exact⟨b,by rw[aa e];exact hb⟩
   ro:=x.ro
   rv:=kp x.rv fun kvs z=>nomatch z
   rw:=fun r hr=>by obtain⟨ws,h1,h2⟩:=x.rw r hr;exact⟨ws,kp h1 (fun kvs z=>nomatch z),h2⟩
   rne:=x.rne
   ra:=x.ra
   th:=x.th
   tv:=by obtain⟨kv,h1,h2⟩:=x.tv;exact⟨kv,kp h1 (fun kvs z=>nomatch z),h2⟩
   no:=x.no
   nv:=by obtain⟨kv,h1,h2⟩:=x.nv;exact⟨kv,kp h1 (fun kvs z=>nomatch z),h2⟩
   sp:=x.sp
   sv:=kp x.sv fun kvs z=>nomatch z
   sa:=x.sa.keep kt
   sl:=x.sl
   se:=x.se
   ev:=by obtain⟨kv,h1,h2,h3⟩:=x.ev;exact⟨kv,kp h1 (fun kvs z=>nomatch z),h2.keep kt,h3⟩
   ne:=x.ne }
end
theorem wR {H:Hp} {f:Addr} {kvs kvs':List (Key×V)} (h:H f=some (.dK kvs)):Tk H (upd H f (.dK kvs')):=fun b xs z=>by
 have ne:b≠f:=fun e=>by
  rw[e] at z
  rcases z with z | ⟨_,z⟩ <;> rw[h] at z <;> cases z
 rcases z with z | ⟨o',z⟩
 · exact .inl (by rw[aa ne];exact z)
 · exact .inr ⟨o',by rw[aa ne];exact z⟩
section
variable {P:Program} {w:World} {K:Fg} {mg:SOV} {base:Heap}
abbrev sFi:Stmt:=top 36
abbrev nFi:List Str:=["_law_state","_law_form_here","_law_first","_law_reply","_law_k","_law_seen_here"]
abbrev vB:List Str:=["_law_state","_law_form_here"]
theorem yn:ax nFi vB (a9 sFi):=fsM
def OkF (d:PyData):Prop:=∃ B:List Int,B.length≤40∧OkE B 5 d
def Aw (K:Fg) (H':Hp) (x:Addr×Frm) (fn:Nat) (skv skv':NKV) (v:V):Prop:=x.2.sort="record"∧skv'=skv∨x.2.sort="function"∧∃ d c,TD K H' v (.tuple [.str x.2.head,.int c,d])∧OkF d∧bm fn [] (AtP d) skv skv'
inductive uG (P:Program) (w:World) (K:Fg) (vs:List V) (H:Hp) (Q:VK):Prop
  | mk (A:Adr) (n:Nat) (ns:List Int) (fo:Addr) (fl:FL) (N:Nat) (skv:NKV) (x:Addr×Frm) (p:Nat) (r:Addr) (fn:Nat) (g0_:vs=[.ref A.s,.ref x.1]) (g1_:SG P w K H A n ns fo fl N skv) (g2_:n<900) (g3_:N+65000<900000) (g4_:x∈fl) (g5_:x.2.part=((p:Nat):Int)) (g6_:A.rs[p]?=some r) (g7_:x.2.number=((fn:Nat):Int)) (g8_:(x.2.sort="record"∨x.2.sort="function")) (g9_:(∃ kvs,H x.1=some (.dK kvs)∧kvs.length≤10)) (g10_:∀ v H' skv',cW A x.1 H H'→SG P w K H' A (n+6) ns fo fl (N+65000) skv'→Aw K H' x fn skv skv' v→Q v H'):uG P w K vs H Q
def xK (P:Program) (w:World) (K:Fg):Sp:=fun vs H Q _=>uG P w K vs H Q
theorem SX.formD {H:Hp} {C:Ctx} {N:Nat} {skv:NKV} (x:SX P w K H C N skv) {y:Addr×Frm} (hy:y∈C.fl):bO H y.1 (.str "part") (some (.int y.2.part))∧bO H y.1 (.str "head") (some (.str y.2.head))∧bO H y.1 (.str "sort") (some (.str y.2.sort)):=by
 obtain⟨⟨m,k',B,si,hk,hB,sm⟩,rr,fe⟩:=x;obtain⟨⟨mf,stf,f1,f2,f3,f4,f5,f6⟩,hi⟩:=fe.fs y hy;exact⟨stf.get f1,stf.get f2,stf.get f3⟩
theorem SX.few {H H':Hp} {C:Ctx} {N:Nat} {skv:NKV} (x:SX P w K H C N skv) {y:Addr×Frm} (hy:y∈C.fl) (kp:ae C.A H H') (h:∃ kvs,H y.1=some (.dK kvs)∧kvs.length≤10):∃ kvs,H' y.1=some (.dK kvs)∧kvs.length≤10:=by
 obtain⟨⟨m,k',B,si,hk,hB,sm⟩,rr,fe⟩:=x;obtain⟨kvs,h1,h2⟩:=h;exact⟨kvs,si.kD kp h1 (fe.nf y hy).1,h2⟩
theorem zu (D:Def K mg "_law_fill" sFi) (T:Blt mg) (ab:Fn P w K mg base "_law_pick" 2 ["_law_state","_law_many"] (fj P w K)) (af:Fn P w K mg base "_law_lay" 1 ["_law_state","_law_words"] (fk P w K)) (aP:Fn P w K mg base "_law_tell" 1 ["_law_state","_law_at","_law_thing"] (iO P w K)) (bV:Fn P w K mg base "_law_bind" 2 ["_law_state","_law_name_here","_law_is_var"] (iP P w K)) (bU:Fn P w K mg base "_law_expr" 30 dG (ka P w K 5)):Fn P w K mg base "_law_fill" 31 vB (xK P w K):=by
 refine D.fn yn (fun vs H Q E h=>?_) (fun _ _ _ _ _ _ us hl=>by obtain⟨a,b,rfl⟩:=fW hl;rfl) (fun f cdv Ar outer s' H vs Q E hr h=>?_)
 · obtain⟨A,n,ns,fo,fl,N,skv,x,p,r,fn,rfl,_⟩:=h;rfl
 · obtain⟨A,n,ns,fo,fl,N,skv,x,p,r,fn,rfl,sg,hn,hN,hx,hp,hr',hnum,hso,hfew,q⟩:=h;have nd:=yn.nd;have hu:=bS hr;have hz0:(1000000:Nat)<sizeLine:=by decide
   let C:Ctx:=⟨A,n+6,ns,fo,fl,p,r,fn,x.2.head⟩
   have hxC:x∈C.fl:=hx;obtain⟨t11,h11,q11⟩:∃ t,PSs (cE CX0 P w K mg base nFi "_law_fill" (a9 sFi) f cdv Ar outer s' H E).nox ((aQ sFi).drop 11) t ∧
    ∀ (H1:Hp) (N1:Nat) (skv1:NKV) (v:V) (i:Int) (x4 x5:Option V),ae A H H1→SX P w K H1 C N1 skv1→N1+2≤N+65000→(∃ kvs,H1 x.1=some (.dK kvs)∧kvs.length≤10)→Aw K H1 x fn skv skv1 v →
     t {nx:=fun _ H'=>Q .non H',rt:=Q} [some (.ref A.s),some (.ref x.1),some (.int i),some v,x4,x5] H1:=by
    refine⟨_,(pE (ak (ac af (hr.mono (by decide)) rfl (pA (pv 0) (pA (ag (pA pD pC)) pC)))) (pE (b7 hu (pv 1) pD (az (pA (pM hu (pv 1) pD (fun _ _=>rfl)) (pA (pv 2) (pA (aC bX (be T.len (pA (am aG (pM hu (pv 0) pD (fun _ _=>rfl)) (pM hu (pv 1) pD (fun _ _=>rfl)) (fun _ _=>rfl)) pC)) (pv 2)) pC)))) rfl) (pI (au (pv 3))))),fun H1 N1 skv1 v i x4 x5 kp1 x1 hN1 hfew1 told=>?_⟩;dsimp only[bC,bH,bG];refine a7 fun qk ii=>?_;refine⟨_,rfl,eC,fun M hM=>?_⟩;have k2:=smu (o:=HO.lst [V.str ")"]) hM;refine⟨C,_,skv1,M,[")"],1,rfl,rfl,x1.same k2,pG,x1.new hM,by lia,fun i3 H3 kp3 x3=>?_⟩;refine ii _ _ (a7 fun Da Ai=>?_);have kp3':=(ae.of k2).trans kp3;obtain⟨rp,rf,rr,rn,re,rs,rv,rat,ws',hws'⟩:=x3.rd;obtain⟨fp,fh,fs⟩:=x3.formD hxC;rw[hp] at fp;refine⟨_,rfl,x.1,_,rfl,fp,_,rfl,_,rfl,A.s,_,rfl,rr,_,rfl,x.1,_,rfl,fp,A.ro,_,_,.ref r,rfl,rfl,SqL.of rv,rat,r,_,rfl,.inl (SqL.of hws'),_,rfl,_,_,rfl,rfl,eB,fun u hu'=>?_⟩;have k4:=smu (o:=HO.tup [V.int ((p:Nat):Int),V.int i,V.int (((ws'.map V.str).length:Nat)-i)]) hu';generalize upd H3 u (.tup [V.int ((p:Nat):Int),V.int i,V.int (((ws'.map V.str).length:Nat)-i)])=H4 at k4 ⊢;have x4:=x3.same k4;have kp4:=kp3'.trans (ae.of k4);obtain⟨kvs,hkv,hkl⟩:=x1.few hxC kp4 hfew1;have tk4:=x1.tk kp4;refine⟨_,rfl,x.1,_,rfl,dI.k (k:=.inr "span") hkv (by lia),?_⟩;refine Ai _ _ ?_;refine⟨_,rfl,q v _ skv1 ((cW.of (kp1.trans kp4)).trans (cW.mo fun b hb=>aa hb)) ?_ ?_⟩
    · obtain⟨⟨m,k',B,si,hk,hB,sm⟩,_,fe⟩:=x4;have hxs:=(fe.nf x hx).1;refine⟨⟨m,k',B,si.mof hkv hxs,by lia,by lia,sm.fo⟩,⟨?_,fun y hy=>?_,fe.le,fe.nfo,fe.nf,fe.inn⟩⟩
      · rw[aa fun e=>by have:=fe.fv;rw[show C.fo=x.1 from e,hkv] at this;cases this];exact fe.fv
      · obtain⟨⟨mf,⟨kv,h1,h2,h3⟩,g1,g2,g3,g4,g5,g6⟩,i1⟩:=fe.fs y hy;have i1':(upd H4 x.1 (.dK (bW kvs (.inr "span") (.ref u)))) y.2.inner=some (.lst (y.2.inn.map V.str)):=by
         rw[aa fun e=>by rw[e,hkv] at i1;cases i1];exact i1
        by_cases e:y.1=x.1
        · rw[e] at h1;rw[hkv] at h1;cases h1;have hsp:∀ z:Str,z≠"span"→bi (bW kvs (.inr "span") (.ref u)) (.inr z)=mf z:=fun z hz=>by
           rw[dL,if_neg (by simpa using hz)];exact h3 z
          refine⟨⟨fun z=>bi (bW kvs (.inr "span") (.ref u)) (.inr z),⟨_,by rw[e];exact pG,?_,fun z=>rfl⟩,?_,?_,?_,?_,?_,?_⟩,i1'⟩
          · have:=bt kvs (.inr "span") (.ref u);lia
          · exact (hsp "part" (by decide +kernel)).trans g1
          · exact (hsp "head" (by decide +kernel)).trans g2
          · exact (hsp "sort" (by decide +kernel)).trans g3
          · exact (hsp "name" (by decide +kernel)).trans g4
          · exact (hsp "inner" (by decide +kernel)).trans g5
          · exact (hsp "number" (by decide +kernel)).trans g6
        · exact⟨⟨mf,⟨kv,by rw[aa e];exact h1,h2,h3⟩,g1,g2,g3,g4,g5,g6⟩,i1'⟩
    · rcases told with ⟨e1,e2⟩ | ⟨e1,d,c,td,ok,gr⟩
      · exact .inl ⟨e1,e2⟩
      · exact .inr ⟨e1,d,c,(td.tk tk4).tk (wR hkv),ok,gr⟩
   refine⟨_,(pE (b7 hu (pv 0) pD (pM hu (pv 1) pD (fun _ _=>rfl)) rfl) (pE (b7 hu (pv 0) pD (pM hu (pv 1) pD (fun _ _=>rfl)) rfl) (pE (b7 hu (pv 0) pD (pM hu (pv 1) pD (fun _ _=>rfl)) rfl) (pE (b7 hu (pv 0) pD pH rfl) (pE (b7 hu (pv 0) pD pH rfl) (pE (b7 hu (pv 0) pD pH rfl) (pE (pN (i:=2) nd rfl (Or.inl rfl) (ac af (hr.mono (by decide)) rfl (pA (pv 0) (pA (ag (pA pD pC)) pC)))) (pE (ak (ac af (hr.mono (by decide)) rfl (pA (pv 0) (pA (ag (pA (pM hu (pv 1) pD (fun _ _=>rfl)) pC)) pC)))) (pE (ak (ac aP (hr.mono (by decide)) rfl (pA (pv 0) (pA (ac af (hr.mono (by decide)) rfl (pA (pv 0) (pA (ag (pA (pM hu (pv 1) pD (fun _ _=>rfl)) pC)) pC))) (pA (az (pA (pM hu (pv 1) pD (fun _ _=>rfl)) (pA (pM hu (pv 1) pD (fun _ _=>rfl)) pC))) pC))))) (pE (pN (i:=3) nd rfl (Or.inl rfl) (be T.len (pA (pM hu (pv 1) pD (fun _ _=>rfl)) pC))) (pE (aN (pO aT (pM hu (pv 1) pD (fun _ _=>rfl)) pD (pP _)) (pI (bx PassesOwn.never rfl (bL rfl T.range (pA (pv 3) pC)) (ao (i:=4) nd rfl (Or.inl rfl)) (pI (ak (ac aP (hr.mono (by decide)) rfl (pA (pv 0) (pA (ac af (hr.mono (by decide)) rfl (pA (pv 0) (pA (ag (pA (am aG (pM hu (pv 1) pD (fun _ _=>rfl)) (pv 4) (fun _ _=>rfl)) pC)) pC))) (pA (az (pA pD (pA (pM hu (pv 1) pD (fun _ _=>rfl)) (pA (pv 4) pC)))) pC)))))))) (pE (ak (ac af (hr.mono (by decide)) rfl (pA (pv 0) (pA (ag (pA pD pC)) pC)))) (pE (gc (i0:=5) (own:=["_law_name_here"]) (outs:=[ (0,"_law_state") ]) rfl (aL.of (a9 sFi) nFi) (bq (pM hu (pv 1) pD (fun _ _=>rfl))) (fun _ _ _ _=>⟨(ao (i:=0) zH rfl (Or.inl rfl)),c6,(ac bV (hr.mono (by decide)) rfl (pA (pv 1) (pA (pv 0) (pA fC pC))))⟩) nd rfl rfl) (pE (ak (ac af (hr.mono (by decide)) rfl (pA (pv 0) (pA (ag (pA pD pC)) pC)))) (pI (pN (i:=3) nd rfl (Or.inl rfl) (az (pA (pM hu (pv 1) pD (fun _ _=>rfl)) (pA (pv 3) (pA (ac bU (hr.mono (by decide)) rfl (pA (pv 0) (pA (az pC) (pA (pv 5) (pA (aC bY pH (ac ab (hr.mono (by decide)) rfl (pA (pv 0) (pA pH pC)))) pC))))) pC)))))))))) h11))))))))))),?_⟩;dsimp only[bC,bH,bG];refine a7 fun zK qB=>?_;obtain⟨⟨m,k,B,si,hk,hB,hfo⟩,fe⟩:=sg;have gets:∀ {H1:Hp},Mo H A.s H1→bO H1 x.1 (.str "part") (some (.int x.2.part))∧bO H1 x.1 (.str "head") (some (.str x.2.head))∧bO H1 x.1 (.str "number") (some (.int x.2.number)):=fun {H1} mo=>by
    obtain⟨⟨mf,⟨kv,h1,h2,h3⟩,g1,g2,g3,g4,g5,g6⟩,i1⟩:=fe.fs x hx;have st:StV H1 x.1 20 mf:=⟨kv,by rw[mo _ (fe.nf x hx).1];exact h1,h2,h3⟩;exact⟨st.get g1,st.get g2,st.get g6⟩
   have mot:∀ {H1 H2:Hp},Mo H A.s H1→Mo H1 A.s H2→Mo H A.s H2:=fun {H1 H2} a b c hc=>(b c hc).trans (a c hc);obtain⟨H1,dp1,mo1,si1⟩:=si.newk (by lia) (y:="part") (.int ((p:Nat):Int)) (by decide +kernel);refine⟨_,rfl,x.1,_,rfl,(gets fun _ _=>rfl).1,_,rfl,A.s,H1,rfl,by rw[hp];exact dp1,?_⟩;refine qB _ _ (a7 fun CV A7=>?_);obtain⟨H2,dp2,mo2,si2⟩:=si1.newk (by lia) (y:="head") (.str x.2.head) (by decide +kernel);refine⟨_,rfl,x.1,_,rfl,(gets mo1).2.1,_,rfl,A.s,H2,rfl,dp2,?_⟩;refine A7 _ _ (a7 fun CU A6=>?_);have mo2:=mot mo1 mo2;obtain⟨H3,dp3,mo3,si3⟩:=si2.newk (by lia) (y:="function") (.int ((fn:Nat):Int)) (by decide +kernel);refine⟨_,rfl,x.1,_,rfl,(gets mo2).2.2,_,rfl,A.s,H3,rfl,by rw[hnum];exact dp3,?_⟩;refine A6 _ _ (a7 fun CT A5=>?_);have mo3:=mot mo2 mo3;obtain⟨H4,dp4,mo4,si4⟩:=si3.newk (by lia) (y:="next") (.int 0) (by decide +kernel);refine⟨_,rfl,A.s,H4,rfl,dp4,?_⟩;refine A5 _ _ (a7 fun CS A4=>?_);have mo4:=mot mo3 mo4;obtain⟨H5,dp5,mo5,si5⟩:=si4.newk (by lia) (y:="funs") (.int 0) (by decide +kernel);refine⟨_,rfl,A.s,H5,rfl,dp5,?_⟩;refine A4 _ _ (a7 fun zJ qA=>?_);have mo5:=mot mo4 mo5;obtain⟨H6,dp6,mo6,si6⟩:=si5.newk (by lia) (y:="left") (.int 16) (by decide +kernel);refine⟨_,rfl,A.s,H6,rfl,dp6,?_⟩;refine qA _ _ (a7 fun CQ A3=>?_);have mo6:=mot mo5 mo6;have x6:SX P w K H6 C N skv:=by
    refine⟨⟨_,k,B,si6,hk,hB,⟨?_,?_,?_,⟨0,?_⟩,⟨0,?_⟩,⟨16,bn _ _ _⟩,?_⟩⟩,hr',(fe.cast rfl rfl rfl:FE H C).keep (C:=C) (B:=B) (si.wide (n':=n+6) (by lia) (by lia)) (ae.mo mo6)⟩
    · rw[ah _ _ (by decide +kernel),ah _ _ (by decide +kernel),ah _ _ (by decide +kernel),ah _ _ (by decide +kernel),ah _ _ (by decide +kernel),bn]
    · rw[ah _ _ (by decide +kernel),ah _ _ (by decide +kernel),ah _ _ (by decide +kernel),bn]
    · rw[ah _ _ (by decide +kernel),ah _ _ (by decide +kernel),ah _ _ (by decide +kernel),ah _ _ (by decide +kernel),bn]
    · rw[ah _ _ (by decide +kernel),ah _ _ (by decide +kernel),bn]
    · rw[ah _ _ (by decide +kernel),bn]
    · rw[ah _ _ (by decide +kernel),ah _ _ (by decide +kernel),ah _ _ (by decide +kernel),ah _ _ (by decide +kernel),ah _ _ (by decide +kernel),ah _ _ (by decide +kernel)];exact hfo
   have kp6:ae A H H6:=ae.mo mo6;have few6:∃ kvs,H6 x.1=some (.dK kvs)∧kvs.length≤10:=by
    obtain⟨kvs,h1,h2⟩:=hfew;exact⟨kvs,by rw[mo6 _ (fe.nf x hx).1];exact h1,h2⟩
   refine⟨_,rfl,eC,fun M hM=>?_⟩;have k7:=smu (o:=HO.lst [V.str "("]) hM;refine⟨C,_,skv,M,["("],1,rfl,rfl,x6.same k7,pG,x6.new hM,(by lia),fun i7 H7 kp7 x7=>?_⟩;refine A3 _ _ (a7 fun CO A1=>?_);have kp7':=(ae.of k7).trans kp7;refine⟨_,rfl,_,rfl,x.1,_,rfl,(x7.formD hxC).2.1,eC,fun M8 hM8=>?_⟩;have k8:=smu (o:=HO.lst [V.str x.2.head]) hM8;refine⟨C,_,skv,M8,[x.2.head],1,rfl,rfl,x7.same k8,pG,x7.new hM8,(by lia),fun i8 H8 kp8 x8=>?_⟩;refine A1 _ _ (a7 fun CN A0=>?_);have kp8':=(ae.of k8).trans kp8;refine⟨_,rfl,_,rfl,_,rfl,x.1,_,rfl,(x8.form hxC).1,eC,fun M9 hM9=>?_⟩;have k9:=smu (o:=HO.lst [V.str x.2.name]) hM9;refine⟨C,_,skv,M9,[x.2.name],1,rfl,rfl,x8.same k9,pG,x8.new hM9,(by lia),fun i9 H9 kp9 x9=>?_⟩;have kp9':=(ae.of k9).trans kp9;refine⟨_,rfl,x.1,_,rfl,(x9.formD hxC).2.2,_,rfl,x.1,_,rfl,(x9.form hxC).2.1,gl,fun t10 ht10=>?_⟩;have k10:=smu (o:=HO.tup [V.str x.2.sort,V.int x.2.number]) ht10;refine⟨C,_,skv,_,_,rfl,x9.same k10,(by lia),fun H10 kp10 x10=>?_⟩;refine A0 _ _ (a7 fun CM zZ=>?_);have kp10':=(ae.of k10).trans kp10;have oF:=kp7'.trans (kp8'.trans (kp9'.trans kp10'));have AD:ae A H H10:=kp6.trans oF;have few10:=x6.few hxC oF few6;obtain⟨fn10,fm10,fi10,hi10,hi4,hi0⟩:=x10.form hxC;have hIr:x.2.inner∉A.rs:=(fe.nf x hx).2;refine⟨_,rfl,x.1,_,rfl,fi10,x.2.inner,_,rfl,.inl (SqL.of hi10),?_⟩;refine zZ _ _ (a7 fun CL u7=>?_);refine⟨_,rfl,x.1,_,rfl,(x10.formD hxC).2.2,rfl,_,rfl,?_⟩;by_cases hrec:x.2.sort="record"
   · refine pL (by simp[hrec]) ?_;refine⟨_,rfl,_,rfl,by rw[lMp];lia,by rw[lMp];lia,?_⟩;rw[lMp,show ((x.2.inn.length:Nat):Int).toNat=x.2.inn.length from Int.toNat_natCast _];show aA _ _ _ _ _ _;refine aA.byN (bv (n:=x.2.inn.length)) (fun i σ Hi=>ae A H10 Hi∧SX P w K Hi C (N+4+2*i) skv∧∃ x4,σ=[some (.ref A.s),some (.ref x.1),some (.int i7),some (.int ((x.2.inn.length:Nat):Int)),x4,none])
      ⟨ae.of (aj.refl _),x10,_,rfl⟩ (fun _ _ _ _ _=>trivial) ?_ ?_
     · rintro i v σ Hi CK B_ zY hB_ hv ⟨kpi,xi,x4,rfl⟩;have hic:i<x.2.inn.length:=by have:=(gES.mp hv).1;rw[bp] at this;exact this
       obtain rfl:=e9 hv;obtain⟨_,_,fii,hii,_,_⟩:=xi.form hxC;refine⟨_,rfl,_,rfl,_,rfl,x.1,_,rfl,fii,_,rfl,x.2.inner,_,_,.str x.2.inn[i],rfl,rfl,SqL.of hii,pJ (by rw[gEM,gEE hic];rfl),eC,fun Mi hMi=>?_⟩;have ki:=smu (o:=HO.lst [V.str x.2.inn[i]]) hMi;refine⟨C,_,skv,Mi,[x.2.inn[i]],1,rfl,rfl,xi.same ki,pG,xi.new hMi,by lia,fun i12 H12 kp12 x12=>?_⟩;refine⟨_,rfl,x.1,_,rfl,(x12.form hxC).2.1,_,rfl,eB,fun ti hti=>?_⟩;have kt:=smu (o:=HO.tup [V.str "field",V.int x.2.number,V.int ((i:Nat):Int)]) hti;refine⟨C,_,skv,_,_,rfl,x12.same kt,by lia,fun H13 kp13 x13=>?_⟩;refine zY _ _ ?_;exact⟨kpi.trans ((ae.of ki).trans (kp12.trans ((ae.of kt).trans kp13))),by rw[show N+4+2*(i+1)=N+4+2*i+1+1 by lia];exact x13,_,rfl⟩
     · rintro σ Hi ⟨kpi,xi,x4,rfl⟩;refine u7 _ _ ?_;rw[bp] at xi;exact q11 Hi _ skv _ i7 _ _ (AD.trans kpi) xi (by lia) (x10.few hxC kpi few10) (.inl ⟨hrec,rfl⟩)
   · have hfun:x.2.sort="function":=hso.elim (fun z=>absurd z hrec) id;refine pK (by simp[hrec]) ?_;refine a7 fun CI zW=>?_;refine⟨_,rfl,eC,fun M11 hM11=>?_⟩;have k11:=smu (o:=HO.lst [V.str "("]) hM11;refine⟨C,_,skv,M11,["("],1,rfl,rfl,x10.same k11,pG,x10.new hM11,(by lia),fun i11 H11 kp11 x11=>?_⟩;refine zW _ _ ?_;have kp11':=(ae.of k11).trans kp11;obtain⟨_,_,fi11,hi11,_,_⟩:=x11.form hxC;rw[fR,cH,cn];refine⟨_,rfl,x.1,_,rfl,fi11,x.2.inner,rfl,⟨_,SqL.of hi11⟩,fun L hL=>?_⟩;refine kS x11 hi11 hIr hL (by lia) (by lia) fun H12 ys ts kp12 x12 hL12 hts htl=>?_;have frL:=(x11.fr hL).rs;rw[aY];refine⟨_,rfl,eC,fun M13 hM13=>?_⟩;have k13:=smu (o:=HO.lst [V.str ")"]) hM13;refine⟨C,_,skv,M13,[")"],1,rfl,rfl,x12.same k13,pG,x12.new hM13,by lia,fun i13 H13 kp13 x13=>?_⟩;have kp13':=(ae.of k13).trans kp13;have hL13:=x12.kL kp13' hL12 frL;have hts13:=hts.tk (x12.tk kp13');have rq:=kp11'.trans (kp12.trans kp13');refine⟨_,rfl,x.1,_,rfl,(x13.formD hxC).2.1,_,rfl,_,rfl,f9,fun e he=>?_⟩;have k14:=smu (o:=HO.tup []) he;have he14:dX (upd H13 e (.tup [])) e []:=pG;generalize upd H13 e (.tup [])=H14 at k14 he14 ⊢;have x14:=x13.same k14;refine⟨_,rfl,_,rfl,C,_,skv,4,rfl,x14,by lia,by decide,fun r15 H15 r150 r151 kp15 x15=>?_⟩;obtain⟨j,rfl⟩:=Int.eq_ofNat_of_zero_le r150;have hcst:cst (1+j)≤64360:=by
      rcases (show j=0∨j=1∨j=2∨j=3 by lia) with rfl | rfl | rfl | rfl <;> decide
     have kp15':=(ae.of k14).trans kp15;have se15:SeV K H15 C L (ts.map fun t=>t.2.1):=⟨ys,ts,x13.kL kp15' hL13 frL,hts13.tk (x13.tk kp15'),rfl,frL⟩;refine⟨_,_,rfl,rfl,C,_,skv,e,[],L,(ts.map fun t=>t.2.1),1+j,_,rfl,by lia,⟨x15,x14.kT kp15 he14,by show 0+(1+j)≤1000;lia,se15,by rw[lMp];lia⟩,(by lia),by lia,fun v d H16 skv16 kp16 x16 td ok gr=>?_⟩;refine⟨eB,fun u hu'=>?_⟩;refine u7 _ _ ?_;have k17:=smu (o:=HO.tup [V.str x.2.head,V.int (((x.2.inn.map V.str).length:Nat):Int),v]) hu';have AC:=rq.trans (kp15'.trans (kp16.trans (ae.of k17)));exact q11 _ _ skv16 _ i7 _ _ (AD.trans AC) (x16.same k17) (by lia) (x10.few hxC AC few10) (.inr ⟨hfun,d,_,.tup (SqT.of pG) (.cons (.str _) (.cons (.int _) (.cons (td.same k17) .nil))),⟨_,by rw[lMp];lia,ok.more (by lia)⟩,gr⟩)
end
end K11
namespace L2
open PySem PySem.Spec PyProof.Rows
def v7 (K:Fg) (trs:List (TE×TE)):TE:=fun σ H Q=>∀ p,H p=none→K.lookup p=none→jd trs σ (upd H p (.dK [])) fun ps H2=>H2 p=some (.dK [])∧∃ kvs:List (Key×V),ps=kvs.map (fun kv=>(kV kv.1,kv.2))∧kvs.length≤15∧Q (.ref p) (upd H2 p (.dK (bM [] kvs)))
theorem qe {X:Cx} {pos:Pos} {keys:List (Option Expr)} {values:List Expr} {trs:List (TE×TE)} (h:PPs X pos keys values trs) (hall:keys.all (·.isSome)=true) (hl:keys.length=values.length) (h0:keys≠[])
 (h15:keys.length≤15):PE X (.Dict keys values pos) (v7 X.K trs):=by
 intro pins s σ H Q I q;have hn:=I.hok.fresh (Nat.le_refl s.heap.objs.size);have hk:X.K.lookup s.heap.objs.size=none:=by
  cases e:X.K.lookup s.heap.objs.size with
  | none=>rfl
  | some o=>exact absurd (Heap.lt_size (I.kIn _ o e)) (Nat.lt_irrefl _)
 have I1:=I.laid (a:=s.heap.objs.size) (o:=.dK []) (h':=s.heap.push {cls:=.type "dict",data:=.dict #[]}) (t':=s.toks) (fun _ _ q=>hpS _ q) (Nat.le_refl _) (ij s.heap I.big);refine wpAny_Dict_walk (knd:=aw X.prog X.w) hall hl h0 h15 (thn (h pins _ σ _ _ I1 (q _ hn hk)) fun ws s2 zy100=>?_);obtain⟨ps,H2,I2,rel,e,kvs,ep,lk,q2⟩:=zy100;subst ep;obtain⟨rs,c,rk⟩:=eV (P:=X.prog) (w:=X.w) rel;obtain⟨z,hd,vs0,r0,dd⟩:=iZ I2.hok e;cases r0;refine⟨rs,c,dd,fun h' dd' hs=>⟨.ref s.heap.objs.size,_,?_,rfl,q2⟩⟩;have hz:(bM [] kvs).length≤sizeLine:=by
  have h1:=cy kvs [];rw[List.length_nil] at h1;rw[sizeLine_eq];lia
 obtain⟨q',_,_,hq,_⟩:=id dd';exact ej I2 (by rw[e];exact True.intro) hs ⟨q',hq⟩ (jD hz hd (rk.merge .nil) dd')
end L2
namespace K11
open PySem L2 P10
def fD (t:Str×Int×PyData):PyData:=.tuple [.str t.1,.int t.2.1,t.2.2]
theorem sy {td ty tv:TE} {D:dY} {σ:St} {H:Hp}:tU td ty tv D σ H=tv σ H fun v H1=>td σ H1 fun x H2=>ty σ H2 fun y H3=>rF x y v H3 (D.nx σ):=rfl
def Ax (fds:List (Str×Int×PyData)) (skv:NKV):Prop:=∀ x∈skv,∃ fn path t,x.1=nk fn path∧fds[fn]?=some t∧AtP t.2.2 path
section
variable {P:Program} {w:World} {K:Fg} {H H':Hp} {A:Adr} {n:Nat} {ns:List Int} {fo:Addr} {fl:FL} {N:Nat} {skv:NKV}
theorem SG.fr (x:SG P w K H A n ns fo fl N skv) {W:Addr} (h:H W=none):Fr K (C0 A ns fo fl) W:=by
 obtain⟨⟨m,k,B,si,r⟩,fe⟩:=x;have ne:∀ {b:Addr} {o:HO},H b=some o→W≠b:=fun {b o} hb e=>by rw[e,hb] at h;cases h
 refine⟨si.new h,ne si.rv,ne fe.fv,fun y hy=>ne (fe.fs y hy).inn,si.al.imp_right fun zy1=>?_⟩;obtain⟨b,hb⟩:=zy1;exact ne hb
theorem SG.updL (x:SG P w K H A n ns fo fl N skv) {W:Addr} (f:Fr K (C0 A ns fo fl) W) {xs ys:List V} (hW:H W=some (.lst xs)):SG P w K (upd H W (.lst ys)) A n ns fo fl N skv:=by
 obtain⟨⟨m,k,B,si,r⟩,fe⟩:=x;refine⟨⟨m,k,B,si.updL hW f.rs f.ro f.al,r⟩,⟨by rw[aa (Ne.symm f.fo)];exact fe.fv,fun y hy=>?_,fe.le,fe.nfo,fe.nf,fe.inn⟩⟩;obtain⟨⟨mf,⟨kvs,h1,h2⟩,r⟩,i⟩:=fe.fs y hy;exact⟨⟨mf,⟨kvs,by rw[aa fun e=>by rw[e,hW] at h1;cases h1];exact h1,h2⟩,r⟩,by rw[aa (Ne.symm (f.inn y hy))];exact i⟩
theorem SG.same (x:SG P w K H A n ns fo fl N skv) (e:aj H H'):SG P w K H' A n ns fo fl N skv:=by
 obtain⟨⟨m,k,B,si,r⟩,fe⟩:=x;exact⟨⟨m,k,B,si.same e,r⟩,⟨e _ _ fe.fv,fe.fs.same e,fe.le,fe.nfo,fe.nf,fe.inn⟩⟩
theorem SG.kpF (x:SG P w K H A n ns fo fl N skv) {f:Addr} (kf:cW A f H H') {b:Addr} {o:HO} (h:H b=some o) (h0:b≠f) (h1:b≠A.s) (h2:b∉A.rs) (h3:∀ kv,o≠.dT kv) (h4:∀ φ,o≠.ext φ):H' b=some o:=by
 obtain⟨⟨m,k,B,si,r⟩,fe⟩:=x;exact si.kp (H':=upd H' f ((H f).getD (.lst []))) (fun b o g1 g2 g3 g4 g5 g6 e=>by
   by_cases z:b=f
   · rw[z,pG,← z,e];rfl
   · rw[aa z];exact kf b o z g1 g2 g3 g4 g5 g6 e) h h1 h2 h3 h4|>fun z=>by rw[aa h0] at z;exact z
theorem SG.kLF (x:SG P w K H A n ns fo fl N skv) {f:Addr} (kf:cW A f H H') (hf:∃ kvs,H f=some (.dK kvs)) {b:Addr} {xs:List V} (h:H b=some (.lst xs)) (h2:b∉A.rs):H' b=some (.lst xs):=by
 obtain⟨⟨m,k,B,si,r⟩,fe⟩:=id x;exact x.kpF kf h (fun e=>by obtain⟨kvs,z⟩:=hf;rw[e,z] at h;cases h) (si.sne h fun _ z=>nomatch z) h2 (fun _ z=>nomatch z) (fun _ z=>nomatch z)
theorem SG.tkF (x:SG P w K H A n ns fo fl N skv) {f:Addr} (kf:cW A f H H') (hf:∃ kvs,H f=some (.dK kvs)):Tk H H':=fun b xs h=>by
 obtain⟨⟨m,k,B,si,r⟩,fe⟩:=id x;have ne:∀ {o:HO},H b=some o→(∀ kvs,o≠.dK kvs)→b≠f:=fun {o} h hd e=>by obtain⟨kvs,z⟩:=hf;rw[e,z] at h;exact hd _ (Option.some.inj h).symm
 rcases h with h | ⟨o,h⟩
 · exact .inl (x.kpF kf h (ne h fun _ z=>nomatch z) (si.sne h fun _ z=>nomatch z) (si.nrs h fun _ z=>nomatch z) (fun _ z=>nomatch z) (fun _ z=>nomatch z))
 · exact .inr ⟨o,x.kpF kf h (ne h fun _ z=>nomatch z) (si.sne h fun _ z=>nomatch z) (si.nrs h fun _ z=>nomatch z) (fun _ z=>nomatch z) (fun _ z=>nomatch z)⟩
theorem SG.kDF (x:SG P w K H A n ns fo fl N skv) {f:Addr} (kf:cW A f H H') {b:Addr} {kvs:List (Key×V)} (h:H b=some (.dK kvs)) (h0:b≠f) (h1:b≠A.s):H' b=some (.dK kvs):=by
 obtain⟨⟨m,k,B,si,r⟩,fe⟩:=id x;exact x.kpF kf h h0 h1 (si.nrs h fun _ z=>nomatch z) (fun _ z=>nomatch z) (fun _ z=>nomatch z)
end
section
variable {P:Program} {w:World} {K:Fg} {mg:SOV} {base:Heap}
abbrev sMa:Stmt:=top 37
abbrev nMa:List Str:=["_law_script","_law_state","_law_names","_law_functions","_law_records","_law_form_here","_law_reply","_law_opens"]
theorem yf:ax nMa ["_law_script"] (a9 sMa):=fsM
theorem Bq:(["_law_k"]:List Str).Nodup:=by decide +kernel
theorem Bw:(["_law_form_here"]:List Str).Nodup:=by decide +kernel
inductive uy (P:Program) (w:World) (K:Fg) (vs:List V) (H:Hp) (Q:VK):Prop
  | mk (a:Addr) (ns:List Int) (g0_:vs=[.ref a]) (g1_:SqL K H a (ns.map V.int)) (g2_:ns.length≤63) (g3_:∀ (s sp c cf:Addr) (skv:NKV) (fvs:List V) (fds:List (Str×Int×PyData)) (v2 v3:V) (H':Hp),(∃ a n m k,Pk K H' s n m a ns k∧k<900000∧m "spans"=some (.ref sp)∧m "core"=some (.ref c))→H' sp=some (DN P w sp skv)→df H' skv→H' c=some (.tup [.ref cf,v2,v3])→H' cf=some (.tup fvs)→TDs K H' fvs (fds.map fD)→(∀ t∈fds,OkF t.2.2)→Ax fds skv→Q (.ref s) H'):uy P w K vs H Q
def xG (P:Program) (w:World) (K:Fg):Sp:=fun vs H Q _=>uy P w K vs H Q
theorem At {H:Hp} {a:Addr} {ns:List Int} (h:SqL K H a (ns.map V.int)):KL K a ns∨∃ b,H a=some b:=by
 rcases h with (h | ⟨o,h⟩) | h
 · exact .inr ⟨_,h⟩
 · exact .inr ⟨_,h⟩
 · exact .inl h
theorem zh (D:Def K mg "_law_made" sMa) (T:Blt mg) (ab:Fn P w K mg base "_law_pick" 2 ["_law_state","_law_many"] (iw K)) (l4:Fn P w K mg base "_law_heads" 6 ["_law_state"] (xI K)) (lX:Fn P w K mg base "_law_fill" 31 vB (xK P w K)):Fn P w K mg base "_law_made" 32 ["_law_script"] (xG P w K):=by
 refine D.fn yf (fun vs H Q E h=>?_) (fun _ _ _ _ _ _ us hl=>by obtain⟨a,rfl⟩:=eo hl;rfl) (fun f cdv Ar outer s' H vs Q E hr h=>?_)
 · obtain⟨a,ns,rfl,_⟩:=h;rfl
 · obtain⟨a,ns,rfl,hS,hlen,q⟩:=h;have nd:=yf.nd;have hu:=bS hr;have hz0:(1000000:Nat)<sizeLine:=by decide
   have al:=At hS;obtain⟨t5,h5,q5⟩:∃ t,PSs (cE CX0 P w K mg base nMa "_law_made" (a9 sMa) f cdv Ar outer s' H E).nox ((aQ sMa).drop 5) t ∧
    ∀ (A:Adr) (fo:Addr) (fl:FL) (Hh H1:Hp) (x2:Option V),SG P w K H1 A 9 ns fo fl 300 []→fl.length≤9→iF Hh H1 A.rs.length fl→t {nx:=fun _ H'=>Q .non H',rt:=Q} [some (.ref a),some (.ref A.s),x2,none,none,none,none,none] H1:=by
    refine⟨_,(pE (pN (i:=3) nd rfl (Or.inl rfl) (ag pC)) (pE (pN (i:=4) nd rfl (Or.inl rfl) (ag pC)) (pE (bx PassesOwn.never rfl (bq (pM hu (pv 1) pD (fun _ _=>rfl))) (ao (i:=5) nd rfl (Or.inl rfl)) (pE (pN (i:=6) nd rfl (Or.inl rfl) (ac lX (hr.mono (by decide)) rfl (pA (pv 1) (pA (pv 5) pC)))) (pI (aN (pO aT (pM hu (pv 5) pD (fun _ _=>rfl)) pD (pP _)) (pI (ak (aV (pv 4) (pA (pv 6) pC)))) (pI (ak (aV (pv 3) (pA (pv 6) pC)))))))) (pE (gc (i0:=7) (own:=["_law_form_here"]) (outs:=[]) rfl (aL.of (a9 sMa) nMa) (bq (pM hu (pv 1) pD (fun _ _=>rfl))) (fun _ _ _ _=>⟨(ao (i:=0) Bw rfl (Or.inl rfl)),(cC (pO aT (pM hu (pv 0) pD (fun _ _=>rfl)) pD (pP _))),(az (pA (pM hu (pv 0) pD (fun _ _=>rfl)) (pA (pM hu (pv 0) pD (fun _ _=>rfl)) pC)))⟩) nd rfl rfl) (pE (b7 hu (pv 1) pD (az (pA (bA T.tuple (pA (pv 3) pC)) (pA (bA T.tuple (pA (pv 4) pC)) (pA (bA T.tuple (pA (oC T.sorted (pA (pv 7) pC)) pC)) pC)))) rfl) (pI (au (pv 1)))))))),fun A fo fl Hh H1 x2 sg1 hfl hok=>?_⟩;dsimp only[bC,bH,bG]
    with_reducible refine a7 fun Dd Al=>?_
    refine⟨f9,fun F hF=>?_⟩;refine Al _ _ ?_
    with_reducible refine a7 fun Dc Ak=>?_
    have k2:=smu (o:=HO.lst []) hF;have e_F:(upd H1 F (.lst [])) F=some (.lst []):=pG;have frF:=sg1.fr hF;generalize upd H1 F (.lst [])=H2 at k2 e_F ⊢;have sg2:=sg1.same k2;refine⟨f9,fun R hR=>?_⟩;refine Ak _ _ ?_
    with_reducible refine a7 fun qk ii=>?_
    have k3:=smu (o:=HO.lst []) hR;have e_R:(upd H2 R (.lst [])) R=some (.lst []):=pG;have frR:=sg2.fr hR;have FR:F≠R:=fun e=>by rw[← e,e_F] at hR;cases hR
    replace e_F:=k3 _ _ e_F;generalize upd H2 R (.lst [])=H3 at k3 e_F e_R ⊢;have sg3:=sg2.same k3;have gfo:∀ {Hi:Hp} {n N:Nat} {skv:NKV},SG P w K Hi A n ns fo fl N skv→bO Hi A.s (.str "forms") (some (.ref fo)):=fun {Hi n N skv} g=>by
     obtain⟨⟨m,k,B,si,_,_,h⟩,_⟩:=g;exact si.pk.st.get h
    refine⟨_,rfl,A.s,_,rfl,gfo sg3,fo,rfl,⟨_,SqL.of sg3.fe.fv⟩,?_⟩;show aA _ _ _ _ _ _;refine aA.byN (aK (xs:=fl.map fun x=>V.ref x.1)) (fun i σ Hi=>(∃ (skv:NKV) (fvs:List V) (fds:List (Str×Int×PyData)) (rvs:List V),SG P w K Hi A (9+6*i) ns fo fl (300+65000*i) skv∧Hi F=some (.lst fvs)∧TDs K Hi fvs (fds.map fD)∧(∀ t∈fds,OkF t.2.2)∧fds.length=((fl.take i).filter (bw "function")).length∧Ax fds skv∧Hi R=some (.lst rvs)∧rvs.length≤i)∧(∀ j x,i≤j→fl[j]?=some x→∃ kvs,Hi x.1=some (.dK kvs)∧kvs.length≤10)∧∃ x5 x6,σ=[some (.ref a),some (.ref A.s),x2,some (.ref F),some (.ref R),x5,x6,none])
     ⟨⟨[],[],[],[],sg3,e_F,.nil,by simp,rfl,fun x hx=>absurd hx nMN,e_R,Nat.le_refl _⟩,fun j x _ hx=>?_,_,_,rfl⟩ (fun i σ Hi _ z=>?_) ?_ ?_
    · obtain⟨kvs,h1,h2⟩:=hok.few x (mGE hx);exact⟨kvs,k3 _ _ (k2 _ _ h1),h2⟩
    · obtain⟨⟨skv,fvs,fds,rvs,sg,_⟩,_⟩:=z;exact SqL.of sg.fe.fv
    · rintro i v σ Hi D3 B_ u8 hB_ hv ⟨⟨skv,fvs,fds,rvs,sg,hFi,htd,hoe,hfl',hsp,hRi,hrl⟩,hfew,x5,x6,rfl⟩;have hin:i<fl.length:=by have:=(gES.mp hv).1;rwa [lMp] at this
      rw[gEM] at hv;obtain⟨x,hx,rfl⟩:=oMS.mp hv;have hxm:=mGE hx;obtain⟨p,hp1,hp2⟩:=hok.pt x hxm;have few:=hfew i x (Nat.le_refl _) hx;have hfd:∃ kvs,Hi x.1=some (.dK kvs):=few.imp fun kvs z=>z.1;refine⟨_,rfl,_,rfl,A,_,ns,fo,fl,_,skv,x,p,A.rs[p],_,rfl,sg,by lia,by lia,hxm,hp2,gEE hp1,hok.num i x hx,hok.so x hxm,few,fun v H4 skv4 kf sg4 told=>?_⟩;have hF4:=sg.kLF kf hfd hFi frF.rs;have hR4:=sg.kLF kf hfd hRi frR.rs;have htd4:=htd.tk (sg.tkF kf hfd);have few4:∀ j y,i+1≤j→fl[j]?=some y→∃ kvs,H4 y.1=some (.dK kvs)∧kvs.length≤10:=fun j y hj hy=>by
       obtain⟨kvs,h1,h2⟩:=hfew j y (by lia) hy;refine⟨kvs,sg.kDF kf h1 (fun e=>?_) (sg.fe.nf y (mGE hy)).1,h2⟩;have hjl:j<fl.length:=(gES.mp hy).1;have h3:(fl.map (·.1))[j]?=some x.1:=by rw[gEM,hy,← e];rfl
       have h4:(fl.map (·.1))[i]?=some x.1:=by rw[gEM,hx];rfl
       have:=(List.getElem?_inj (by rw[lMp];exact hjl) hok.nd).mp (h3.trans h4.symm);lia
      have gso:bO H4 x.1 (.str "sort") (some (.str x.2.sort)):=by
       obtain⟨⟨mf,stf,f1,f2,f3,f4,f5,f6⟩,_⟩:=sg4.fe.fs x hxm;exact stf.get f3
      have fl1:=htd4.length;rw[lMp] at fl1;have hfll:fds.length≤i:=by rw[hfl'];exact Nat.le_trans (List.length_filter_le _ _) (by rw[lTk];lia)
      have hstep:=di (bw "function") hx;refine⟨_,rfl,x.1,_,rfl,gso,rfl,_,rfl,?_⟩;by_cases hrec:x.2.sort="record"
      · refine pL (by simp[hrec]) ⟨_,rfl,.inl ⟨rfl,_,SqL.of hR4⟩,_,rfl,R,_,_,rfl,rfl,hR4,(by lia),?_⟩;refine u8 _ _ ?_;have e:skv4=skv:=by
         rcases told with ⟨_,e⟩ | ⟨e,_⟩
         · exact e
         · rw[hrec] at e;exact absurd e (by decide +kernel)
        have hsn:bw "function" x=false:=by unfold bw;rw[hrec];decide +kernel
        refine⟨⟨skv4,fvs,fds,rvs++[v],?_,by rw[aa FR];exact hF4,htd4.tk (aZ (.inr ⟨_,hR4⟩)),hoe,by rw[hstep,hsn];simpa using hfl',by rw[e];exact hsp,pG,by simp;assumption⟩,fun j y hj hy=>?_,_,_,rfl⟩
        · rw[show 9+6*(i+1)=9+6*i+6 by lia,show 300+65000*(i+1)=300+65000*i+65000 by lia];exact sg4.updL frR hR4
        · obtain⟨kvs,h1,h2⟩:=few4 j y hj hy;exact⟨kvs,by rw[aa fun e=>by rw[e,hR4] at h1;cases h1];exact h1,h2⟩
      · refine pK (by simp[hrec]) ⟨_,rfl,.inl ⟨rfl,_,SqL.of hF4⟩,_,rfl,F,_,_,rfl,rfl,hF4,by lia,?_⟩;refine u8 _ _ ?_
        rcases told with ⟨e,_⟩ | ⟨hfun,d,c,td,ok,gr⟩
        · exact absurd e hrec
        have hsn:bw "function" x=true:=by unfold bw;rw[hfun];decide +kernel
        have hnum:((fl.take i).filter (bw x.2.sort)).length=fds.length:=by rw[hfun];exact hfl'.symm
        rw[hnum] at gr;refine⟨⟨skv4,fvs++[v],fds++[(x.2.head,c,d)],rvs,?_,pG,?_,fun t ht=>?_,by rw[hstep,hsn,lAp,lAp,hfl'];rfl,fun y hy=>?_,by rw[aa (Ne.symm FR)];exact hR4,(by lia)⟩,fun j y hj hy=>?_,_,_,rfl⟩
        · rw[show 9+6*(i+1)=9+6*i+6 by lia,show 300+65000*(i+1)=300+65000*i+65000 by lia];exact sg4.updL frF hF4
        · rw[List.map_append];exact (htd4.snoc td).tk (aZ (.inr ⟨_,hF4⟩))
        · rcases mAp.mp ht with ht | ht
          · exact hoe t ht
          · rw[mSg.mp ht];exact ok
        · rcases gr y hy with ⟨u,hu1,hu2⟩ | ⟨q1,hq1,hq2⟩
          · obtain⟨fn,path,t,g1,g2,g3⟩:=hsp u hu1;exact⟨fn,path,t,hu2.symm.trans g1,by rw[List.getElem?_append_left (gES.mp g2).1];exact g2,g3⟩
          · exact⟨fds.length,q1,_,hq2,by rw[List.getElem?_append_right (Nat.le_refl _),Nat.sub_self];rfl,hq1⟩
        · obtain⟨kvs,h1,h2⟩:=few4 j y hj hy;exact⟨kvs,by rw[aa fun e=>by rw[e,hF4] at h1;cases h1];exact h1,h2⟩
    · rintro σ Hi ⟨⟨skv,fvs,fds,rvs,sg,hFi,htd,hoe,hfl',hsp,hRi,hrl⟩,hfew,x5,x6,rfl⟩;refine ii _ _ ?_
      with_reducible refine a7 fun CP A2=>?_
      rw[lMp] at sg hrl;rw[cH,cn];refine⟨_,rfl,A.s,_,rfl,gfo sg,fo,rfl,⟨_,SqL.of sg.fe.fv⟩,fun L hL=>?_⟩;refine b5.by (aK (xs:=fl.map fun x=>V.ref x.1)) (fun j σ Hj=>aj Hi Hj∧(∃ ys,Hj L=some (.lst ys)∧ys.length≤j∧∀ y∈ys,∃ (b:Addr) (nm:Str) (i:Int),y=.ref b∧Hj b=some (.tup [.str nm,.int i]))∧∃ y,σ=[y]) ⟨smu hL,⟨[],pG,Nat.le_refl _,by simp⟩,_,rfl⟩ (fun j σ Hj _ z=>SqL.of (z.1 _ _ sg.fe.fv)) ?_ ?_
      · rintro j v σ Hj hv ⟨sj,⟨ys,hLj,hyl,hys⟩,y,rfl⟩;have hj:j<fl.length:=by have:=(gES.mp hv).1;rwa [lMp] at this
        rw[gEM] at hv;obtain⟨fx,hfx,rfl⟩:=oMS.mp hv;obtain⟨⟨mf,stf,f1,f2,f3,f4,f5,f6⟩,_⟩:=(sg.fe.fs fx (mGE hfx)).same sj;rw[aY];refine⟨_,rfl,fx.1,_,rfl,stf.get f2,rfl,_,rfl,?_⟩;split
        · refine⟨_,rfl,fx.1,_,rfl,stf.get f4,_,rfl,fx.1,_,rfl,stf.get f6,gl,fun u hu'=>?_⟩;have ku:=smu (o:=HO.tup [V.str fx.2.name,V.int fx.2.number]) hu';have hLu:=ku _ _ hLj;refine⟨_,hLu,(by lia),aD (sj.trans ku) hL,⟨_,pG,by simp;assumption,fun z hz=>?_⟩,_,rfl⟩;have stay:∀ {b:Addr} {xs:List V},(upd Hj u (.tup [V.str fx.2.name,V.int fx.2.number])) b=some (.tup xs)→(upd (upd Hj u (.tup [V.str fx.2.name,V.int fx.2.number])) L (.lst (ys++[V.ref u]))) b=some (.tup xs):=fun {b xs} h=>by
           rw[aa fun e=>by rw[e,hLu] at h;cases h];exact h
          rcases mAp.mp hz with hz | hz
          · obtain⟨b,nm,i,e1,e2⟩:=hys z hz;exact⟨b,nm,i,e1,stay (ku _ _ e2)⟩
          · exact⟨u,_,_,mSg.mp hz,stay pG⟩
        · exact⟨sj,⟨ys,hLj,(by lia),hys⟩,_,rfl⟩
      · rintro σ Hj ⟨sj,⟨ys,hLj,hyl,hys⟩,y,rfl⟩;refine A2 _ _ ?_;rw[lMp] at hyl;refine⟨_,rfl,F,_,rfl,.inl ⟨SqL.of (sj _ _ hFi),fun cf hcf=>?_⟩⟩;have k4:=smu (o:=HO.tup fvs) hcf;have e_cf:(upd Hj cf (.tup fvs)) cf=some (.tup fvs):=pG;generalize upd Hj cf (.tup fvs)=H4 at k4 e_cf ⊢;refine⟨_,rfl,R,_,rfl,.inl ⟨SqL.of (k4 _ _ (sj _ _ hRi)),fun cr hcr=>?_⟩⟩;have k5:=smu (o:=HO.tup rvs) hcr;generalize upd H4 cr (.tup rvs)=H5 at k5 ⊢;have K5:=k4.trans k5;refine⟨_,rfl,L,ys,rfl,SqL.of (K5 _ _ hLj),by lia,fun z hz=>?_,fun l zs hl hzl=>?_⟩
        · obtain⟨b,nm,i,e1,e2⟩:=hys z hz;exact⟨b,nm,i,e1,K5 _ _ e2⟩
        have k6:=smu (o:=HO.lst zs) hl;refine⟨l,zs,rfl,.inl ⟨SqL.of pG,fun co hco=>?_⟩⟩;generalize upd H5 l (.lst zs)=H6 at k6 hco ⊢;have k7:=smu (o:=HO.tup zs) hco;refine⟨eB,fun c hc=>?_⟩;generalize upd H6 co (.tup zs)=H7 at k7 hc ⊢;have k8:=smu (o:=HO.tup [V.ref cf,V.ref cr,V.ref co]) hc;have e_c:(upd H7 c (.tup [V.ref cf,V.ref cr,V.ref co])) c=some (.tup [V.ref cf,V.ref cr,V.ref co]):=pG;generalize upd H7 c (.tup [V.ref cf,V.ref cr,V.ref co])=H8 at k8 e_c ⊢;have K8:aj Hi H8:=sj.trans (K5.trans (k6.trans (k7.trans k8)));have e_cf8:=k8 _ _ (k7 _ _ (k6 _ _ (k5 _ _ e_cf)));obtain⟨⟨m,k,B,si,hk8,_,hmf⟩,fe⟩:=sg.same K8;have hn9:9+6*fl.length+1≤1000:=by lia
        have hk9:k<900000:=by lia
        obtain⟨H9,dp9,mo9,st9⟩:=si.pk.st.new "core" (.ref c) si.pk.hn;refine⟨_,rfl,A.s,H9,rfl,dp9,_,rfl,?_⟩;have nes:∀ {b:Addr} {o:HO},H8 b=some o→(∀ kvs,o≠.dK kvs)→H9 b=some o:=fun {b o} h hd=>by rw[mo9 b (si.sne h hd)];exact h
        have tk9:Tk H8 H9:=fun b xs h=>by
         rcases h with h | ⟨o,h⟩
         · exact .inl (nes h fun _ z=>nomatch z)
         · exact .inr ⟨o,nes h fun _ z=>nomatch z⟩
        exact q A.s A.sp c cf skv fvs fds _ _ H9 ⟨_,_,_,k,⟨st9,hn9,by rw[ah _ _ (by decide +kernel)];exact si.pk.sc,si.pk.ne,SqL.mo si.pk.sq mo9 si.pk.ne,si.pk.len,by rw[ah _ _ (by decide +kernel)];exact si.pk.hk,si.pk.k0⟩,hk9,by rw[ah _ _ (by decide +kernel)];exact si.sp,bn _ _ _⟩ (nes si.sv fun _ z=>nomatch z) (si.sa.keep fun c ys z=>nes z fun _ z=>nomatch z) (nes e_c fun _ z=>nomatch z) (nes e_cf8 fun _ z=>nomatch z) ((htd.same K8).tk tk9) hoe hsp
   refine⟨_,(pE (pN (i:=1) nd rfl (Or.inl rfl) (@qe _ _ _ _ _ (@bB _ _ _ _ _ _ _ _ _ pD (pv 0) (@bB _ _ _ _ _ _ _ _ _ pD pH (@bB _ _ _ _ _ _ _ _ _ pD (ag pC) (@bB _ _ _ _ _ _ _ _ _ pD kA (@bB _ _ _ _ _ _ _ _ _ pD kA (@bB _ _ _ _ _ _ _ _ _ pD kB (@bB _ _ _ _ _ _ _ _ _ pD kB mz))))))) rfl rfl (by simp) (by decide))) (pE (b7 hu (pv 1) pD (eE (own:=["_law_k"]) (outs:=[]) rfl (aL.of (a9 sMa) nMa) (bL rfl T.range (pA (aC bY pH (ac ab (hr.mono (by decide)) rfl (pA (pv 1) (pA pH pC)))) pC)) (fun _ _ _ _=>⟨(ao (i:=0) Bq rfl (Or.inl rfl)),c6,(ag pC)⟩)) rfl) (pE (pN (i:=2) nd rfl (Or.inl rfl) (am aG (ag (pA (ag (pA pD (pA pD (pA pD pC)))) (pA (ag (pA pD (pA pD (pA pD pC)))) (pA (ag (pA pD (pA pD (pA pD pC)))) pC)))) (ac ab (hr.mono (by decide)) rfl (pA (pv 1) (pA pH pC))) (fun _ _=>rfl))) (pE (b7 hu (pv 1) pD (c7 gB (pv 2) cL (bE (be T.len (pA (pM hu (pv 1) pD (fun _ _=>rfl)) pC)))) rfl) (pE (ak (ac l4 (hr.mono (by decide)) rfl (pA (pv 1) pC))) h5))))),?_⟩;dsimp only[bC,bH,bG];refine fun s hs hKs=>⟨_,rfl,f9,fun fo hfo=>?_⟩;have k1:=smu (o:=HO.dK []) hs;have e_s:(upd H s (.dK [])) s=some (.dK []):=pG;generalize upd H s (.dK [])=H1 at k1 e_s hfo ⊢;have k2:=smu (o:=HO.lst []) hfo;have e_fo:(upd H1 fo (.lst [])) fo=some (.lst []):=pG;replace e_s:=k2 _ _ e_s;generalize upd H1 fo (.lst [])=H2 at k2 e_s e_fo ⊢;refine fun th hth=>?_;have k3:=smu (o:=HO.dT []) hth;have e_th:(upd H2 th (.dT [])) th=some (.dT []):=pG;replace e_s:=k3 _ _ e_s;replace e_fo:=k3 _ _ e_fo;generalize upd H2 th (.dT [])=H3 at k3 e_s e_fo e_th ⊢;refine fun no hno=>?_;have k4:=smu (o:=HO.dT []) hno;have e_no:(upd H3 no (.dT [])) no=some (.dT []):=pG;replace e_s:=k4 _ _ e_s;replace e_fo:=k4 _ _ e_fo;replace e_th:=k4 _ _ e_th;generalize upd H3 no (.dT [])=H4 at k4 e_s e_fo e_th e_no ⊢;refine fun sp hsp=>?_;have k5:=smu (o:=DN P w sp []) hsp;have e_sp:(upd H4 sp (DN P w sp [])) sp=some (DN P w sp []):=pG;replace e_s:=k5 _ _ e_s;replace e_fo:=k5 _ _ e_fo;replace e_th:=k5 _ _ e_th;replace e_no:=k5 _ _ e_no;generalize upd H4 sp (DN P w sp [])=H5 at k5 e_s e_fo e_th e_no e_sp ⊢;refine fun se hse=>?_;have k6:=smu (o:=DN P w se []) hse;have e_se:(upd H5 se (DN P w se [])) se=some (DN P w se []):=pG;have ne_ss:sp≠se:=fun e=>by rw[e,hse] at e_sp;cases e_sp
   replace e_s:=k6 _ _ e_s;replace e_fo:=k6 _ _ e_fo;replace e_th:=k6 _ _ e_th;replace e_no:=k6 _ _ e_no;replace e_sp:=k6 _ _ e_sp;generalize upd H5 se (DN P w se [])=H6 at k6 e_s e_fo e_th e_no e_sp e_se ⊢;have S6:aj H H6:=k1.trans (k2.trans (k3.trans (k4.trans (k5.trans k6))));refine⟨e_s,[(.inr "script",.ref a),(.inr "k",.int 0),(.inr "forms",.ref fo),(.inr "things",.ref th),(.inr "nodes",.ref no),(.inr "spans",.ref sp),(.inr "seen",.ref se)],rfl,by show 7≤15;decide,?_⟩;have st7:=StV.made (H:=H6) (f:=s) [("script",.ref a),("k",.int 0),("forms",.ref fo),("things",.ref th),("nodes",.ref no),("spans",.ref sp),("seen",.ref se)] (n:=7) (by show 7≤7;decide);have eq7:(upd H6 s (.dK (bM [] [(.inr "script",.ref a),(.inr "k",.int 0),(.inr "forms",.ref fo),(.inr "things",.ref th),(.inr "nodes",.ref no),(.inr "spans",.ref sp),(.inr "seen",.ref se)])))=(upd H6 s (.dK (bM [] (([("script",.ref a),("k",.int 0),("forms",.ref fo),("things",.ref th),("nodes",.ref no),("spans",.ref sp),("seen",.ref se)]:List (Str×V)).map fun p=>((Sum.inr p.1:Key),p.2))))):=rfl;rw[eq7];have mo7:Mo H6 s (upd H6 s (.dK (bM [] (([("script",.ref a),("k",.int 0),("forms",.ref fo),("things",.ref th),("nodes",.ref no),("spans",.ref sp),("seen",.ref se)]:List (Str×V)).map fun p=>((Sum.inr p.1:Key),p.2))))):=fun b hb=>aa hb;generalize (upd H6 s (.dK (bM [] (([("script",.ref a),("k",.int 0),("forms",.ref fo),("things",.ref th),("nodes",.ref no),("spans",.ref sp),("seen",.ref se)]:List (Str×V)).map fun p=>((Sum.inr p.1:Key),p.2)))))=H7 at st7 mo7 ⊢;have nes:∀ {b:Addr} {o:HO},H6 b=some o→(∀ kvs,o≠.dK kvs)→b≠s:=fun {b o} h hd e=>by rw[e,e_s] at h;exact hd _ (Option.some.inj h).symm
   have a_s:a≠s:=fun e=>by
    rcases al with ⟨o,_,_,h1,_⟩ | ⟨b,hb⟩
    · rw[e,hKs] at h1;cases h1
    · rw[e,hs] at hb;cases hb
   have n_fo:=nes e_fo fun _ z=>nomatch z;have n_th:=nes e_th fun _ z=>nomatch z;have n_no:=nes e_no fun _ z=>nomatch z;have n_sp:=nes e_sp fun _ z=>nomatch z;have n_se:=nes e_se fun _ z=>nomatch z;replace e_fo:H7 fo=some (.lst []):=by rw[mo7 fo n_fo];exact e_fo
   replace e_th:H7 th=some (.dT []):=by rw[mo7 th n_th];exact e_th
   replace e_no:H7 no=some (.dT []):=by rw[mo7 no n_no];exact e_no
   replace e_sp:H7 sp=some (DN P w sp []):=by rw[mo7 sp n_sp];exact e_sp
   replace e_se:H7 se=some (DN P w se []):=by rw[mo7 se n_se];exact e_se
   have al7:KL K a ns∨∃ b,H7 a=some b:=al.imp_right fun ⟨b,hb⟩=>⟨b,by rw[mo7 a a_s];exact S6 _ _ hb⟩;have fo_a:KL K a ns∨fo≠a:=al.imp_right fun ⟨b,hb⟩ e=>by rw[e,k1 _ _ hb] at hfo;cases hfo
   obtain⟨m7,hm7,st7⟩:∃ m:Str→Option V,(m "script"=some (.ref a)∧m "k"=some (.int 0)∧m "forms"=some (.ref fo)∧m "things"=some (.ref th)∧m "nodes"=some (.ref no)∧m "spans"=some (.ref sp)∧m "seen"=some (.ref se))∧StV H7 s 7 m:=⟨_,⟨rfl,rfl,rfl,rfl,rfl,rfl,rfl⟩,st7⟩;obtain⟨m_sc,m_k,m_fo,m_th,m_no,m_sp,m_se⟩:=hm7;have p7:Pk K H7 s 7 m7 a ns 0:=⟨st7,by decide,m_sc,a_s,SqL.mo (S6.seq hS) mo7 a_s,hlen,m_k,Int.le_refl _⟩;dsimp only;rw[aY,fR,sy,cn];refine⟨_,rfl,s,a,7,m7,ns,0,3,rfl,p7.st,p7.hn,p7.sc,p7.ne,p7.sq,p7.len,p7.hk,p7.k0,by decide,by decide,fun r8 H8 r80 r81 mo8 st8=>?_⟩;have p8:=p7.next mo8 st8;obtain⟨c8,rfl⟩:=Int.eq_ofNat_of_zero_le r80;refine⟨_,_,rfl,rfl,_,rfl,by lia,by lia,fun ro hro=>?_⟩;rw[show (1+((c8:Nat):Int)).toNat=1+c8 by lia];replace e_fo:H8 fo=some (.lst []):=by rw[mo8 fo n_fo];exact e_fo
   replace e_th:H8 th=some (.dT []):=by rw[mo8 th n_th];exact e_th
   replace e_no:H8 no=some (.dT []):=by rw[mo8 no n_no];exact e_no
   replace e_sp:H8 sp=some (DN P w sp []):=by rw[mo8 sp n_sp];exact e_sp
   replace e_se:H8 se=some (DN P w se []):=by rw[mo8 se n_se];exact e_se
   have e_fo8:=e_fo;have al8:KL K a ns∨∃ b,H8 a=some b:=al7.imp_right fun ⟨b,hb⟩=>⟨b,by rw[mo8 a a_s];exact hb⟩;refine b5.by (bv (n:=1+c8)) (fun j σ Hj=>aj H8 Hj∧(∃ rs:List Addr,Hj ro=some (.lst (rs.map V.ref))∧rs.length=j∧(∀ r∈rs,H8 r=none∧Hj r=some (.lst []))∧ro∉rs)∧∃ y,σ=[y]) ⟨smu hro,⟨[],pG,rfl,by simp,by simp⟩,_,rfl⟩ (fun _ _ _ _ _=>trivial) ?_ ?_
   · rintro j x σ Hj hxj ⟨sj,⟨rs,hj,hl,hrs,hn⟩,y,rfl⟩;have hjc:j<1+c8:=by have:=(gES.mp hxj).1;rw[bp] at this;exact this
     rw[aY,dN];refine bj ⟨f9,fun r hr=>?_⟩;have kr:=smu (o:=HO.lst []) hr;have nr:r≠ro:=fun e=>by rw[e,hj] at hr;cases hr
     refine⟨_,kr _ _ hj,by rw[lMp];lia,aD (sj.trans kr) hro,⟨rs++[r],by rw[pG,List.map_append];rfl,by simp[hl],fun z hz=>?_,fun z=>?_⟩,_,rfl⟩
     · rcases mAp.mp hz with hz | hz
       · obtain⟨z1,z2⟩:=hrs z hz;have nz:z≠ro:=fun e=>hn (by rw[← e];exact hz);exact⟨z1,by rw[aa nz];exact kr _ _ z2⟩
       · rw[mSg.mp hz];exact⟨aj.free sj hr,by rw[aa nr];exact pG⟩
     · rcases mAp.mp z with z | z
       · exact hn z
       · exact nr (mSg.mp z).symm
   rintro σ H9 ⟨s9,⟨rs,e_ro,hrl,hrs,hrn⟩,y,rfl⟩;rw[bp] at hrl;replace e_fo:=s9 _ _ e_fo;replace e_th:=s9 _ _ e_th;replace e_no:=s9 _ _ e_no;replace e_sp:=s9 _ _ e_sp;replace e_se:=s9 _ _ e_se;have p9:=p8.same s9;have al9:KL K a ns∨∃ b,H9 a=some b:=al8.imp_right fun ⟨b,hb⟩=>⟨b,s9 _ _ hb⟩;have ra:KL K a ns∨a∉rs:=al8.imp_right fun ⟨b,hb⟩ e=>by rw[(hrs a e).1] at hb;cases hb
   have fo_rs:fo∉rs:=fun e=>by
    have z:=(hrs fo e).1;rw[e_fo8] at z;cases z
   obtain⟨H10,dp10,mo10,st10⟩:=p9.st.new "rows" (.ref ro) p9.hn;refine⟨_,rfl,s,H10,rfl,dp10,?_⟩
   with_reducible refine a7 fun CF zT=>?_
   have ro_s:ro≠s:=fun e=>by
    obtain⟨kvs,h1,_⟩:=p9.st;rw[← e,e_ro] at h1;cases h1
   have rs_s:∀ r∈rs,r≠s:=fun r hr e=>by
    obtain⟨kvs,h1,_⟩:=p9.st;have z:=(hrs r hr).2;rw[e,h1] at z;cases z
   have p10:Pk K H10 s 8 (aH (aH m7 "k" (.int (0+1))) "rows" (.ref ro)) a ns (0+1):=⟨st10,by decide,by rw[ah _ _ (by decide +kernel)];exact p9.sc,a_s,SqL.mo p9.sq mo10 a_s,hlen,by rw[ah _ _ (by decide +kernel)];exact p9.hk,by decide⟩;have al10:KL K a ns∨∃ b,H10 a=some b:=al9.imp_right fun ⟨b,hb⟩=>⟨b,by rw[mo10 a a_s];exact hb⟩;have hrs10:∀ r∈rs,H10 r=some (.lst []):=fun r hr=>by rw[mo10 r (rs_s r hr)];exact (hrs r hr).2
   replace e_ro:H10 ro=some (.lst (rs.map V.ref)):=by rw[mo10 ro ro_s];exact e_ro
   replace e_fo:H10 fo=some (.lst []):=by rw[mo10 fo n_fo];exact e_fo
   replace e_th:H10 th=some (.dT []):=by rw[mo10 th n_th];exact e_th
   replace e_no:H10 no=some (.dT []):=by rw[mo10 no n_no];exact e_no
   replace e_sp:H10 sp=some (DN P w sp []):=by rw[mo10 sp n_sp];exact e_sp
   replace e_se:H10 se=some (DN P w se []):=by rw[mo10 se n_se];exact e_se
   refine⟨eB,fun l1 h1=>?_⟩;have k11:=smu (o:=HO.lst [V.str "a",V.str "b",V.str "c"]) h1;have g1:(upd H10 l1 (.lst [V.str "a",V.str "b",V.str "c"])) l1=some (.lst [V.str "a",V.str "b",V.str "c"]):=pG;generalize upd H10 l1 (.lst [V.str "a",V.str "b",V.str "c"])=H11 at k11 g1 ⊢;refine⟨eB,fun l2 h2=>?_⟩;have k12:=smu (o:=HO.lst [V.str "a",V.str "ab",V.str "abc"]) h2;have g2:(upd H11 l2 (.lst [V.str "a",V.str "ab",V.str "abc"])) l2=some (.lst [V.str "a",V.str "ab",V.str "abc"]):=pG;replace g1:=k12 _ _ g1;generalize upd H11 l2 (.lst [V.str "a",V.str "ab",V.str "abc"])=H12 at k12 g1 g2 ⊢;refine⟨eB,fun l3 h3=>?_⟩;have k13:=smu (o:=HO.lst [V.str "f",V.str "thing",V.str "gggggggg"]) h3;have g3:(upd H12 l3 (.lst [V.str "f",V.str "thing",V.str "gggggggg"])) l3=some (.lst [V.str "f",V.str "thing",V.str "gggggggg"]):=pG;replace g1:=k13 _ _ g1;replace g2:=k13 _ _ g2;generalize upd H12 l3 (.lst [V.str "f",V.str "thing",V.str "gggggggg"])=H13 at k13 g1 g2 g3 ⊢;refine⟨eB,fun O hO=>?_⟩;have k14:=smu (o:=HO.lst [V.ref l1,V.ref l2,V.ref l3]) hO;have gO:(upd H13 O (.lst [V.ref l1,V.ref l2,V.ref l3])) O=some (.lst [V.ref l1,V.ref l2,V.ref l3]):=pG;replace g1:=k14 _ _ g1;replace g2:=k14 _ _ g2;replace g3:=k14 _ _ g3;generalize upd H13 O (.lst [V.ref l1,V.ref l2,V.ref l3])=H14 at k14 g1 g2 g3 gO ⊢;have K14:aj H10 H14:=k11.trans (k12.trans (k13.trans k14));have p14:=p10.same K14;refine⟨_,rfl,s,a,8,_,ns,0+1,3,rfl,p14.st,p14.hn,p14.sc,p14.ne,p14.sq,p14.len,p14.hk,p14.k0,by decide,by decide,fun r15 H15 r150 r151 mo15 st15=>?_⟩;have p15:=p14.next mo15 st15;have l_s:∀ {b:Addr} {xs:List V},H14 b=some (.lst xs)→H15 b=some (.lst xs):=fun {b xs} h=>by
    rw[mo15 b fun e=>by obtain⟨kvs,z,_⟩:=p14.st;rw[e,z] at h;cases h];exact h
   obtain⟨j15,rfl⟩:=Int.eq_ofNat_of_zero_le r150;obtain⟨lj,xj,hlj,hxj⟩:∃ l xs,([V.ref l1,V.ref l2,V.ref l3]:List V)[j15]?=some (.ref l)∧H15 l=some (.lst xs):=by
    rcases (show j15=0∨j15=1∨j15=2 by lia) with rfl | rfl | rfl
    · exact⟨l1,_,rfl,l_s g1⟩
    · exact⟨l2,_,rfl,l_s g2⟩
    · exact⟨l3,_,rfl,l_s g3⟩
   refine⟨O,_,_,.ref lj,rfl,rfl,SqL.of (l_s gO),pJ hlj,?_⟩;refine zT _ _ ?_
   with_reducible refine a7 fun CD zS=>?_
   have g_ro:bO H15 s (.str "rows") (some (.ref ro)):=p15.st.get (by rw[ah _ _ (by decide +kernel),bn]);refine⟨_,rfl,_,rfl,s,_,rfl,g_ro,ro,_,rfl,.inl (SqL.of (l_s (K14 _ _ e_ro))),_,rfl,lj,xj,rfl,SqL.of hxj,fun p hp=>?_⟩;have k16:=smu (o:=HO.lst (eT xj none (some (((rs.map V.ref).length:Nat):Int)))) hp;generalize upd H15 p (.lst (eT xj none (some (((rs.map V.ref).length:Nat):Int))))=H16 at k16 ⊢;have p16:=p15.same k16;obtain⟨H17,dp17,mo17,st17⟩:=p16.st.new "names" (.ref p) p16.hn;refine⟨_,rfl,s,H17,rfl,dp17,?_⟩;refine zS _ _ ?_
   with_reducible refine a7 fun CC zR=>?_
   have p17:Pk K H17 s 9 (aH (aH (aH (aH m7 "k" (.int (0+1))) "rows" (.ref ro)) "k" (.int (0+1+1))) "names" (.ref p)) a ns (0+1+1):=⟨st17,by decide,by rw[ah _ _ (by decide +kernel)];exact p16.sc,a_s,SqL.mo p16.sq mo17 a_s,hlen,by rw[ah _ _ (by decide +kernel)];exact p16.hk,by decide⟩;have go:∀ {b:Addr} {o:HO},H10 b=some o→b≠s→H17 b=some o:=fun {b o} h hb=>by
    rw[mo17 b hb];refine k16 _ _ ?_;rw[mo15 b hb];exact K14 _ _ h
   have mg7:∀ {y:Str},y≠"k"→y≠"rows"→y≠"names"→aH (aH (aH (aH m7 "k" (.int (0+1))) "rows" (.ref ro)) "k" (.int (0+1+1))) "names" (.ref p) y=m7 y:=fun {y} h1 h2 h3=>by
    rw[ah _ _ h3,ah _ _ h1,ah _ _ h2,ah _ _ h1]
   have m_ro:aH (aH (aH (aH m7 "k" (.int (0+1))) "rows" (.ref ro)) "k" (.int (0+1+1))) "names" (.ref p) "rows"=some (.ref ro):=by
    rw[ah _ _ (by decide +kernel),ah _ _ (by decide +kernel),bn]
   have al17:KL K a ns∨∃ b,H17 a=some b:=al10.imp_right fun ⟨b,hb⟩=>⟨b,go hb a_s⟩;have fo_ro:fo≠ro:=fun e=>by
    rw[← e] at hro;rw[e_fo8] at hro;cases hro
   refine⟨_,rfl,s,a,fo,ro,rs,9,_,ns,0+1+1,rfl,p17,al17,fo_a,by decide,by rw[mg7 (by decide +kernel) (by decide +kernel) (by decide +kernel)];exact m_fo,go e_fo n_fo,m_ro,go e_ro ro_s,fo_ro,by lia,fun fl k18 H18 sm hf18 hok hfl c1 c2 p18=>?_⟩;refine zR _ _ ?_;have rs_fo:∀ r∈rs,r≠fo:=fun r hr e=>fo_rs (e▸hr);have gm:∀ {b:Addr} {o:HO},H10 b=some o→b≠s→b≠fo→H18 b=some o:=fun {b o} h h1 h2=>sm b o h1 h2 (go h h1);have nfo:∀ {b:Addr} {o:HO},H10 b=some o→(∀ xs,o≠.lst xs)→b≠fo:=fun {b o} h hd e=>by rw[e,e_fo] at h;exact hd _ (Option.some.inj h).symm
   have mk:∀ {y:Str},y≠"k"→aH (aH (aH (aH (aH m7 "k" (.int (0+1))) "rows" (.ref ro)) "k" (.int (0+1+1))) "names" (.ref p)) "k" (.int k18) y=aH (aH (aH (aH m7 "k" (.int (0+1))) "rows" (.ref ro)) "k" (.int (0+1+1))) "names" (.ref p) y:=fun {y} h=>ah _ _ h;refine q5 ⟨s,a,ro,rs,th,no,sp,se⟩ fo fl H17 H18 _ ⟨⟨aH (aH (aH (aH (aH m7 "k" (.int (0+1))) "rows" (.ref ro)) "k" (.int (0+1+1))) "names" (.ref p)) "k" (.int k18),k18,0,?_,by lia,Nat.zero_le _,?_⟩,⟨hf18,hok.fv,by show fl.length≤1000;lia,fo_rs,fun x hx=>⟨fun e=>?_,fun e=>?_⟩,hok.inn⟩⟩ hfl hok
   · exact
     { pk:=p18
       al:=by
         rcases al17 with z | ⟨b,hb⟩
         · exact .inl z
         · by_cases e:a=fo
           · exact .inr ⟨_,by show H18 a=_;rw[e];exact hf18⟩
           · exact .inr ⟨b,sm _ _ a_s e hb⟩
       ro:=by rw[mk (by decide +kernel)];exact m_ro
       rv:=gm e_ro ro_s (Ne.symm fo_ro)
       rw:=fun r hr=>⟨[],gm (hrs10 r hr) (rs_s r hr) (rs_fo r hr),Nat.le_refl _⟩
       rne:=hrn
       ra:=ra
       th:=by rw[mk (by decide +kernel),mg7 (by decide +kernel) (by decide +kernel) (by decide +kernel)];exact m_th
       tv:=⟨[],gm e_th n_th (nfo e_th fun _ z=>nomatch z),Nat.le_refl _⟩
       no:=by rw[mk (by decide +kernel),mg7 (by decide +kernel) (by decide +kernel) (by decide +kernel)];exact m_no
       nv:=⟨[],gm e_no n_no (nfo e_no fun _ z=>nomatch z),Nat.le_refl _⟩
       sp:=by rw[mk (by decide +kernel),mg7 (by decide +kernel) (by decide +kernel) (by decide +kernel)];exact m_sp
       sv:=gm e_sp n_sp (nfo e_sp fun _ z=>nomatch z)
       sa:=fun x hx=>absurd hx nMN
       sl:=Nat.le_refl _
       se:=by rw[mk (by decide +kernel),mg7 (by decide +kernel) (by decide +kernel) (by decide +kernel)];exact m_se
       ev:=⟨[],gm e_se n_se (nfo e_se fun _ z=>nomatch z),fun x hx=>absurd hx nMN,Nat.le_refl _⟩
       ne:=ne_ss }
   · rw[mk (by decide +kernel),mg7 (by decide +kernel) (by decide +kernel) (by decide +kernel)];exact m_fo
   · have z:=(hok.new x hx).1;obtain⟨kvs,h1,_⟩:=p17.st;have e':x.1=s:=e;rw[e',h1] at z;cases z
   · have z:=(hok.new x hx).2;have e':x.2.inner∈rs:=e;rw[go (hrs10 _ e') (rs_s _ e')] at z;cases z
end
end K11
namespace P10
open PySem L2
def Ly (c:Nat) (d:PyData):Prop:=d.canLay0=true∧d.depth≤c
theorem Ly.more {c c':Nat} {d:PyData} (h:Ly c d) (hc:c≤c'):Ly c' d:=⟨h.1,Nat.le_trans h.2 hc⟩
theorem qm {c:Nat}:∀ {ds:PDs},PyData.canLayAll0 ds=true→PyData.depthAll ds≤c→∀ x∈ds,Ly c x:=by
 intro ds
 induction ds with
 | nil=>exact fun _ _ x hx=>absurd hx nMN
 | cons d r ih =>
  intro h1 h2 x hx;have h1':(d.canLay0&&PyData.canLayAll0 r)=true:=h1;rw[Bool.and_eq_true] at h1';have h2':max d.depth (PyData.depthAll r)≤c:=h2
  rcases List.mem_cons.mp hx with rfl | hx
  · exact⟨h1'.1,by lia⟩
  · exact ih h1'.2 (by lia) x hx
theorem hG {c:Nat} {ds:PDs} (h:∀ x∈ds,Ly c x):Ly (c+1) (.tuple ds):=⟨ef fun x hx=>(h x hx).1,eh fun x hx=>(h x hx).2⟩
theorem dS {c:Nat} {ds:PDs} (h:Ly (c+1) (.tuple ds)):∀ x∈ds,Ly c x:=by
 obtain⟨h1,h2⟩:=h;have h2':PyData.depthAll ds+1≤c+1:=h2;exact qm h1 (by lia)
theorem jx {c:Nat} {ds:PDs} (h:Ly c (.tuple ds)):∃ c',c=c'+1:=by
 have h2:PyData.depthAll ds+1≤c:=h.2;exact⟨c-1,by lia⟩
theorem sU {c:Nat}:∀ {sl:List Str} {ps:PDs},(∀ p∈ps,Ly c p)→∀ x∈aE sl ps,Ly c x:=by
 intro sl
 induction sl with
 | nil=>exact fun {ps} _ x hx=>absurd hx nMN
 | cons s sl ih =>
  intro ps h x hx;cases ps with
  | nil=>exact absurd hx nMN
  | cons p ps =>
   have hx':x∈b8 s p++aE sl ps:=hx
   rcases mAp.mp hx' with hx | hx
   · have hp:=h p mCS;unfold b8 at hx;split at hx
     · rw[mSg.mp hx];exact hp
     · split at hx
       · cases p with
         | tuple l =>
          obtain⟨c',rfl⟩:=jx hp;exact (dS hp x hx).more (Nat.le_succ _)
         | none=>exact absurd hx nMN
         | bool b=>exact absurd hx nMN
         | int i=>exact absurd hx nMN
         | str z=>exact absurd hx nMN
         | list l=>exact absurd hx nMN
         | dict l=>exact absurd hx nMN
       · exact absurd hx nMN
   · exact ih (fun q hq=>h q (mCM _ hq)) x hx
theorem Nd.ly {d:PyData} {h:Str} {sl:List Str} {ps:PDs} {c:Nat} (n:Nd d h sl ps) (l:Ly c d):∀ x∈aE sl ps,Ly c x:=by
 rw[n.eq] at l;obtain⟨c',rfl⟩:=jx l;exact fun x hx=>((sU (sl:=sl) fun p hp=>dS l p (mCM _ hp)) x hx).more (Nat.le_succ _)
theorem Aq {c:Nat}:∀ {p:List Nat} {n:Nat} {d e:PyData},WFd n d→Ly c d→atD d p=some e→Ly c e:=by
 intro p
 induction p with
 | nil=>exact fun {n d e} _ l h=>by cases h;exact l
 | cons i r ih =>
  intro n d e wf l h;have h':(ai d)[i]?.bind (fun x=>atD x r)=some e:=h;obtain⟨x,hx,hr⟩:=Option.bind_eq_some_iff.mp h';cases n with
  | zero=>exact wf.elim
  | succ n =>
   obtain⟨h0,sl,ps,nd,wk⟩:=wf;rw[nd.kids] at hx;have hm:=mGE hx;exact ih (wk x hm) (nd.ly l x hm) hr
theorem wC:∀ {p:List Nat} {n:Nat} {d e:PyData},WFd n d→atD d p=some e→p.length<n:=by
 intro p
 induction p with
 | nil =>
  intro n d e wf _;cases n with
  | zero=>exact wf.elim
  | succ n=>exact Nat.succ_pos _
 | cons i r ih =>
  intro n d e wf h;have h':(ai d)[i]?.bind (fun x=>atD x r)=some e:=h;obtain⟨x,hx,hr⟩:=Option.bind_eq_some_iff.mp h';cases n with
  | zero=>exact wf.elim
  | succ n =>
   have:=ih (wf.kid (mGE hx)) hr;show r.length+1<n+1;lia
theorem vS {c:Nat} {s:Str} {p:PyData} {ks:PDs} {k:Nat} (hk:∀ x∈ks,Ly c x) (hp:Ly (c+1) p):Ly (c+1) (dP s p ks k):=by
 unfold dP;split
 · cases e:ks[k]? with
   | none=>exact hp
   | some y=>exact (hk y (mGE e)).more (Nat.le_succ _)
 · split
   · exact hG fun x hx=>hk x (List.mem_of_mem_drop (List.mem_of_mem_take hx))
   · exact hp
theorem ql {c:Nat} {ks:PDs} (hk:∀ x∈ks,Ly c x):∀ {sl:List Str} {ps:PDs} (k:Nat),(∀ p∈ps,Ly (c+1) p)→∀ x∈cv ks sl ps k,Ly (c+1) x:=by
 intro sl
 induction sl with
 | nil=>exact fun {ps} k _ x hx=>absurd hx nMN
 | cons s sl ih =>
  intro ps k h x hx;cases ps with
  | nil=>exact absurd hx nMN
  | cons p ps =>
   rcases List.mem_cons.mp (show x∈dP s p ks k::cv ks sl ps (k+(b8 s p).length) from hx) with rfl | hx
   · exact vS hk (h p mCS)
   · exact ih _ (fun q hq=>h q (mCM _ hq)) x hx
theorem Nd.ly_with {d:PyData} {h:Str} {sl:List Str} {ps ks:PDs} {c:Nat} (n:Nd d h sl ps) (l:Ly (c+2) d) (hk:∀ x∈ks,Ly c x):Ly (c+2) (.tuple (.str h::cv ks sl ps 0)):=by
 rw[n.eq] at l;have pl:=dS l;refine hG fun x hx=>?_
 rcases List.mem_cons.mp hx with rfl | hx
 · exact pl _ mCS
 · exact ql hk 0 (fun p hp=>pl p (mCM _ hp)) x hx
theorem OkE.ly {B:List Int} {n:Nat} {d:PyData} (h:OkE B n d):Ly (2*n) d:=⟨h.lay,h.dep⟩
theorem Ly.shaped {c:Nat} {d:PyData} (h:Ly c d) (hc:c≤64):SeqAt.shaped d=true:=by
 unfold SeqAt.shaped;rw[h.1,decide_eq_true (Nat.le_trans h.2 hc)];rfl
def prt (f:PyData→PyData) (s:Str) (p:PyData):PyData:=if s="one" then f p else if s="many" then .tuple ((aq p).map f) else p
theorem mX {f:PyData→PyData}:∀ {sl:List Str} {ps:PDs} (pre post:PDs),cv (pre++((aE sl ps).map f++post)) sl ps pre.length=List.zipWith (prt f) sl ps:=by
 intro sl
 induction sl with
 | nil=>intro ps pre post;cases ps <;> rfl
 | cons s sl ih =>
  intro ps pre post;cases ps with
  | nil=>rfl
  | cons p ps =>
   rw[ce,List.map_append,List.append_assoc];have h:=ih (ps:=ps) (pre++(b8 s p).map f) post;rw[List.append_assoc,lAp,lMp] at h;show dP s p _ pre.length::cv _ sl ps (pre.length+(b8 s p).length)=prt f s p::List.zipWith (prt f) sl ps;rw[h];congr 1;unfold dP prt;by_cases h1:s="one"
   · subst h1;rw[if_pos rfl,if_pos rfl,mG];simp
   · rw[if_neg h1,if_neg h1];by_cases h2:s="many"
     · subst h2;rw[if_pos rfl,if_pos rfl,List.drop_left];have e:b8 "many" p=aq p:=by unfold b8;rw[if_neg h1,if_pos rfl]
       rw[e,List.take_left' (by rw[lMp])]
     · rw[if_neg h2,if_neg h2]
theorem rK {bs:PDs} {g:Int→Int}:∀ {sl:List Str} {ps:PDs},sl.length=ps.length→(∀ s∈sl,s≠"bound"∧s≠"bounds"∧s≠"meant")→cZ bs g sl ps=ps:=by
 intro sl
 induction sl with
 | nil=>intro ps hl _;cases ps with | nil=>rfl | cons=>cases hl
 | cons s sl ih =>
  intro ps hl h;cases ps with
  | nil=>cases hl
  | cons p ps =>
   show cb bs g s p::cZ bs g sl ps=_;obtain⟨h1,h2,h3⟩:=h s mCS;rw[ih (Nat.succ.inj hl) fun s hs=>h s (mCM _ hs)];unfold cb;rw[if_neg h1,if_neg h2,if_neg h3]
theorem eM {g:Int→Int} {n:Nat} {d:PyData} {h:Str} {sl:List Str} {ps:PDs} (nd:Nd d h sl ps):bz (ba g) (n+1) d=.tuple (.str h::List.zipWith (prt (bz (ba g) n)) sl (cZ ((cg h ps).map (cB g)) g sl ps)):=by
 show iH ((ai d).map (bz (ba g) n)) (ba g d)=_;obtain⟨_,nd'⟩:=nd.turn g;rw[nd'.put];congr 2;have e:(ai d).map (bz (ba g) n)=[]++((aE sl (cZ ((cg h ps).map (cB g)) g sl ps)).map (bz (ba g) n)++[]):=by
  rw[ia,nd.kids,List.append_nil,List.nil_append]
 rw[e];exact mX [] []
def w5:List Str:=["name","set","let","var","each"]
theorem w5S {h:Str} {sl:List Str} (m:(h,sl)∈tbl) (e:bN h w5=true):sl=(["meant"]:List Str)∨sl=(["meant","one"]:List Str)∨(sl=(["bound","one","one"]:List Str)∧bN h w2=true):=by
 have:∀ p∈tbl,bN p.1 w5=true→p.2=(["meant"]:List Str)∨p.2=(["meant","one"]:List Str)∨(p.2=(["bound","one","one"]:List Str)∧bN p.1 w2=true):=by decide +kernel
 exact this _ m e
theorem u3 {h:Str} {sl:List Str} (m:(h,sl)∈tbl) (e:bN h w5=false) (hf:h≠"fun"):∀ s∈sl,s≠"bound"∧s≠"bounds"∧s≠"meant":=by
 have:∀ p∈tbl,bN p.1 w5=false→p.1≠"fun"→∀ s∈p.2,s≠"bound"∧s≠"bounds"∧s≠"meant":=by decide +kernel
 exact this _ m e hf
theorem pZ (f:PyData→PyData) (p:PyData):prt f "one" p=f p:=by unfold prt;rw[if_pos rfl]
theorem fS {s:Str} (h1:s≠"one") (h2:s≠"many") (f:PyData→PyData) (p:PyData):prt f s p=p:=by unfold prt;rw[if_neg h1,if_neg h2]
theorem gA (bs:PDs) (g:Int→Int) (p:PyData):cb bs g "one" p=p:=by unfold cb;rw[if_neg (by decide +kernel),if_neg (by decide +kernel),if_neg (by decide +kernel)]
theorem m8 (bs:PDs) (g:Int→Int) (i:Int):cb bs g "meant" (.int i)=.int (g i):=by unfold cb;rw[if_neg (by decide +kernel),if_neg (by decide +kernel),if_pos rfl];rfl
theorem rN {g:Int→Int} {n:Nat} {d:PyData} {h:Str} {sl:List Str} {ps:PDs} (nd:Nd d h sl ps) (e:bN h w5=true):∃ (i:Int) (ks:PDs),ps=.int i::ks∧ks.length≤2∧(∀ x∈ks,x∈aE sl ps)∧bz (ba g) (n+1) d=.tuple ([.str h,.int (g i)]++ks.map (bz (ba g) n)):=by
 rw[eM nd];obtain⟨_,hm,hshp,_⟩:=nd
 rcases w5S hm e with rfl | rfl | ⟨rfl,ew⟩
 · obtain⟨p0,rfl,s0⟩:=K11.fE hshp;obtain⟨i,rfl⟩:=s0.2.1 (by decide +kernel);refine⟨i,[],rfl,by decide,fun x hx=>absurd hx nMN,?_⟩;show PyData.tuple (.str h::[prt _ "meant" (cb _ g "meant" (.int i))])=_;rw[m8,fS (by decide +kernel) (by decide +kernel)];rfl
 · obtain⟨p0,p1,rfl,s0,_⟩:=K11.cM hshp;obtain⟨i,rfl⟩:=s0.2.1 (by decide +kernel);refine⟨i,[p1],rfl,by show 1≤2;decide,fun x hx=>hx,?_⟩;show PyData.tuple (.str h::[prt _ "meant" (cb _ g "meant" (.int i)),prt _ "one" (cb _ g "one" p1)])=_;rw[m8,fS (by decide +kernel) (by decide +kernel),gA,pZ];rfl
 · obtain⟨p0,p1,p2,rfl,s0,_,_⟩:=K11.gF hshp;obtain⟨i,rfl⟩:=s0.2.1 (by decide +kernel);refine⟨i,[p1,p2],rfl,by show 2≤2;decide,fun x hx=>hx,?_⟩;have eb:cg h [.int i,p1,p2]=[.int i]:=by unfold cg;rw[if_pos ew];rfl
   rw[eb];show PyData.tuple (.str h::[prt _ "bound" (cb [.int (g i)] g "bound" (.int i)),prt _ "one" (cb _ g "one" p1),prt _ "one" (cb _ g "one" p2)])=_;have e0:cb [.int (g i)] g "bound" (.int i)=.int (g i):=by unfold cb;rw[if_pos rfl];rfl
   rw[e0,fS (by decide +kernel) (by decide +kernel),gA,pZ,gA,pZ];rfl
theorem oM {g:Int→Int} {n:Nat} {d:PyData} {sl:List Str} {ps:PDs} (nd:Nd d "fun" sl ps):∃ (is:List Int) (b:PyData),ps=[.tuple (is.map .int),b]∧is.length≤3∧b∈aE sl ps∧bz (ba g) (n+1) d=.tuple [.str "fun",.tuple (is.map (cB g∘PyData.int)),bz (ba g) n b]:=by
 rw[eM nd];obtain⟨_,hm,hshp,_⟩:=nd;obtain rfl:=tp hm;obtain⟨p0,p1,rfl,s0,_⟩:=K11.cM hshp;obtain⟨is,rfl,hl⟩:=s0.2.2.2 rfl;refine⟨is,p1,rfl,hl,mCS,?_⟩;have eb:cg "fun" [.tuple (is.map .int),p1]=is.map .int:=by unfold cg;rw[if_neg (by decide +kernel),if_pos rfl];rfl
 rw[eb,List.map_map];show PyData.tuple (.str "fun"::[prt _ "bounds" (cb (is.map (cB g∘PyData.int)) g "bounds" (.tuple (is.map .int))),prt _ "one" (cb _ g "one" p1)])=_;have e0:cb (is.map (cB g∘PyData.int)) g "bounds" (.tuple (is.map .int))=.tuple (is.map (cB g∘PyData.int)):=by unfold cb;rw[if_neg (by decide +kernel),if_pos rfl]
 rw[e0,fS (by decide +kernel) (by decide +kernel),gA,pZ]
theorem nu {g:Int→Int} {n:Nat} {d:PyData} {h:Str} {sl:List Str} {ps:PDs} (nd:Nd d h sl ps) (e:bN h w5=false) (hf:h≠"fun"):bz (ba g) (n+1) d=.tuple (.str h::List.zipWith (prt (bz (ba g) n)) sl ps):=by
 rw[eM nd,rK (Paired.length nd.shp) (u3 nd.mem e hf)]
theorem rP {g:Int→Int} {n c:Nat} {d:PyData} (wf:WFd n d) (l:Ly c d):Ly (c+2*n) (bz (ba g) n d):=by
 induction n generalizing d with
 | zero=>exact wf.elim
 | succ n ih =>
  have wf0:=wf;obtain⟨h,sl,ps,nd,hk⟩:=wf;have lk:=nd.ly l;obtain⟨e1,nd'⟩:=nd.turn g;have l':Ly (c+2*n+2) (ba g d):=by
   obtain⟨is,eis,_,_⟩:=cU nd;rw[e1];rw[nd.eq] at l;obtain⟨c',rfl⟩:=jx l;have lp:=dS l;refine (hG (c:=c'+2) fun x hx=>?_).more (by omega)
   rcases List.mem_cons.mp hx with rfl | hx
   · exact (lp _ mCS).more (by omega)
   · unfold cZ at hx;obtain⟨k,hk'⟩:=List.getElem?_of_mem hx;rw[List.getElem?_zipWith] at hk';cases es:sl[k]? with
     | none=>rw[es] at hk';cases hk'
     | some s =>
      cases ep:ps[k]? with
      | none=>rw[es,ep] at hk';cases hk'
      | some p =>
       rw[es,ep] at hk';cases hk';have lpp:=(lp p (mCM _ (mGE ep))).more (show c'≤c'+2 by omega);have li:∀ i:Int,Ly (c'+2) (.int i):=fun i=>⟨rfl,Nat.zero_le _⟩;have eb:(cg h ps).map (cB g)=(is.map g).map PyData.int:=by rw[eis,List.map_map,List.map_map];rfl
       rw[eb];unfold cb;split
       · cases is with
         | nil=>exact lpp
         | cons i r=>exact li _
       · split
         · refine (hG (c:=0) fun x hx=>?_).more (by omega);obtain⟨i,_,rfl⟩:=List.mem_map.mp hx;exact⟨rfl,Nat.le_refl _⟩
         · split
           · cases p <;> first | exact li _ | exact lpp
           · exact lpp
  show Ly (c+2*(n+1)) (iH ((ai d).map (bz (ba g) n)) (ba g d));rw[nd'.put,show c+2*(n+1)=c+2*n+2 by omega];refine nd'.ly_with l' fun x hx=>?_;obtain⟨y,hy,rfl⟩:=List.mem_map.mp hx;exact ih (wf0.kid hy) (lk y (by rw[← nd.kids];exact hy))
inductive OkT (g:Int→Int) (k:Nat) (d r:PyData):Prop
  | int (i:Int) (h:1≤k) (e:d=.int i) (er:r=d)
  | str (x:Str) (h:1≤k) (e:d=.str x) (er:r=d)
  | ex (n:Nat) (h:2*n+1≤k) (wf:WFd n d) (ly:Ly 60 d) (er:r=bz (ba g) n d)
  | many (n:Nat) (ks:PDs) (h:2*n+2≤k) (e:d=.tuple ks) (wf:∀ x∈ks,WFd n x) (ly:∀ x∈ks,Ly 60 x) (hl:ks.length≤8) (er:r=.tuple (ks.map (bz (ba g) n)))
end P10
namespace K11
open PySem L2 P10
section
variable {P:Program} {w:World} {K:Fg} {mg:SOV} {base:Heap}
abbrev sLt:Stmt:=top 41
abbrev nLt:List Str:=["_law_thing","_law_ids","_law_rest"]
inductive uA (K:Fg) (k:Nat) (vs:List V) (H:Hp) (Q:VK):Prop
  | mk (v:V) (m:Addr) (d r:PyData) (kvs:List (Key×V)) (g0_:vs=[v,.ref m]) (g1_:TD K H v d) (g2_:H m=some (.dK kvs)) (g3_:oz kvs) (g4_:OkT (gK kvs) k d r) (g5_:∀ v' H',aj H H'→TD K H' v' r→Q v' H'):uA K k vs H Q
def jZ (K:Fg) (k:Nat):Sp:=fun vs H Q _=>uA K k vs H Q
theorem vm:ax nLt ["_law_thing","_law_ids"] (a9 sLt):=fsM
theorem zG:(["_law_part","_law_ids"]:List Str).Nodup:=by decide +kernel
theorem Bn:(["_law_one","_law_ids"]:List Str).Nodup:=by decide +kernel
theorem vG {α β:Type} {F:α→β→Prop} {l1:List α} {l2:List β} (h:Paired F l1 l2):∀ {i:Nat} {a:α} {b:β},l1[i]?=some a→l2[i]?=some b→F a b:=by
 induction h with
 | nil=>intro i a b h1;cases h1
 | cons r _ ih =>
  intro i a b h1 h2;cases i with
  | zero=>cases h1;cases h2;exact r
  | succ i=>exact ih h1 h2
theorem g9 {J:It} {xs:List V} {Ok:Hp→Prop} (y:de J xs Ok) {k:Nat} {m L:Addr} {kvs:List (Key×V)} {ds rs:PDs} {Q:VK} {H1:Hp} {x0:Option V} (txs:TDs K H1 xs ds) (pd:Paired (OkT (gK kvs) k) ds rs) (hz:xs.length≤1000) (hL:H1 L=none) (hm:H1 m=some (.dK kvs)) (hint:oz kvs) (hOk:∀ H,aj H1 H→Ok H)
 (hQ:∀ (H:Hp) (ys:List V),aj H1 H→H L=some (.lst ys)→TDs K H ys rs→Q (.ref L) H):b5 J (gg 0) rR (gJ (jZ K k) [] E0 (cR (d9 0) (cR (d9 1) je))) Q [x0,some (.ref m)] H1 L:=by
 refine b5.dat (K:=K) (n:=1) y (ds:=rs) (txs.length.trans (Paired.length pd)) hz hL hOk ?_ hQ;intro i x dr σ Hi R T hx hdr sm e1 e2 hR;obtain⟨y0,rfl⟩:∃ y0,σ=[y0,some (.ref m)]:=by
  cases σ with
  | nil=>cases e2
  | cons y0 r =>
   have e1':r=[some (.ref m)]:=e1;exact⟨y0,by rw[e1']⟩
 obtain⟨dx,hdx,tdx⟩:=txs.get hx;rw[aY,dN];exact bj ⟨_,rfl,_,rfl,x,m,dx,dr,kvs,rfl,tdx.same sm,sm _ _ hm,hint,vG pd hdx hdr,fun v' H' s' t'=>hR v' _ H' s' t' rfl rfl⟩
theorem zj {k:Nat} (D:Def K mg "_law_turned" sLt) (T:Blt mg) (kd:mT K) (cu:Fn P w K mg base "_law_turned" (k+1) ["_law_thing","_law_ids"] (jZ K k)):Fn P w K mg base "_law_turned" (k+2) ["_law_thing","_law_ids"] (jZ K (k+1)):=by
 refine D.fn vm (fun vs H Q E h=>?_) (fun _ _ _ _ _ _ us hl=>by obtain⟨a,b,rfl⟩:=fW hl;rfl) (fun f cdv A outer s' H vs Q E hr h=>?_)
 · obtain⟨v,m,d,r,kvs,rfl,_⟩:=h;rfl
 · obtain⟨v,m,d,r,kvs,rfl,td,hm,hint,hok,q⟩:=h;have nd:=vm.nd;have hu:=bS hr;have hu64:(A.deeper (PyProof.Rows.envOfC "_law_turned" (a9 sLt) s'.heap.objs.size f cdv)).units+64<cLine:=by have:=hr.units65;omega
   have hz0:(1000000:Nat)<sizeLine:=by decide
   refine⟨_,(pE (aN (gU (cS (eZ T.isinstance (pA (pv 0) (pA (dn (v:=.ty "tuple") rfl T.tuple cm rfl) pC))))) (pI (au (pv 0))) aF)
 (pE (aN (PW.pt (b6 (pO iQ (be T.len (pA (pv 0) pC)) pH (pP _)) (b6 (cS (eZ T.isinstance (pA (am aB (pv 0) pH (fun _ _=>rfl)) (pA (dn (v:=.ty "str") rfl T.str ga rfl) pC)))) (bh (pO cQ (am aB (pv 0) pH (fun _ _=>rfl)) (az (pA pD (pA pD (pA pD (pA pD (pA pD pC)))))) (by with_unfolding_all rfl)))))) (pE (pN (i:=2) nd rfl (Or.inl rfl) (bA T.tuple (pA (eE (own:=["_law_part"]) (outs:=[(1,"_law_ids")]) (te:=gJ (jZ K k) [] E0 (cR (d9 0) (cR (d9 1) je))) rfl (aL.of (a9 sLt) nLt) (fU (c7 eO (pv 0) (bE pH) cL)) (fun _ _ _ _=>⟨(ao (i:=0) zG rfl (Or.inl rfl)),c6,(ac cu hr rfl (pA (pv 0) (pA (pv 1) pC)))⟩)) pC)))
 (pI (au (aC cO (az (pA (am aB (pv 0) pH (fun _ _=>rfl)) (pA (fA hu (pv 1) (am aB (pv 0) pH (fun _ _=>rfl)) (am aB (pv 0) pH (fun _ _=>rfl)) ⟨rfl,rfl,rfl,rfl⟩) pC))) (pv 2))))) aF)
 (pE (aN (PW.pt (b6 (pO iQ (be T.len (pA (pv 0) pC)) pH (pP _)) (bh (pO (vH hu64) (am aB (pv 0) pH (fun _ _=>rfl)) pD (pP _))))) (pI (au (az (pA pD (pA (bA T.tuple (pA (eE (own:=["_law_one"]) (outs:=[(1,"_law_ids")]) rfl (aL.of (a9 sLt) nLt) (fU (am aB (pv 0) pH (fun _ _=>rfl))) (fun _ _ _ _=>⟨(ao (i:=0) Bn rfl (Or.inl rfl)),c6,(fA hu (pv 1) (pv 0) (pv 0) ⟨rfl,rfl,rfl,rfl⟩)⟩)) pC)) (pA (ac cu hr rfl (pA (am aB (pv 0) pH (fun _ _=>rfl)) (pA (pv 1) pC))) pC)))))) aF)
 (pI (au (bA T.tuple (pA (eE (own:=["_law_part"]) (outs:=[(1,"_law_ids")]) (te:=gJ (jZ K k) [] E0 (cR (d9 0) (cR (d9 1) je))) rfl (aL.of (a9 sLt) nLt) (fU (pv 0)) (fun _ _ _ _=>⟨(ao (i:=0) zG rfl (Or.inl rfl)),c6,(ac cu hr rfl (pA (pv 0) (pA (pv 1) pC)))⟩)) pC))))))),?_⟩
   dsimp only[bC,bH,bG];have at0:∀ {x:V} {r:List V},atI (x::r) 0=some x:=fun {x r}=>pJ (j:=0) rfl;have at1:∀ {x y:V} {r:List V},atI (x::y::r) 1=some y:=fun {x y r}=>pJ (j:=1) rfl;have at2:∀ {x y z:V} {r:List V},atI (x::y::z::r) 2=some z:=fun {x y z r}=>pJ (j:=2) rfl;refine a7 fun rG iu=>?_;cases hok with
   | int i h e er =>
    subst e er;obtain rfl:=td.int_of;exact⟨_,rfl,_,"int","tuple",false,rfl,.int i,kd.it,false,rfl,bj ⟨_,rfl,q _ _ (aj.refl _) td⟩⟩
   | str x h e er =>
    subst e er;obtain rfl:=td.str_of;exact⟨_,rfl,_,"str","tuple",false,rfl,.str x,kd.st,false,rfl,bj ⟨_,rfl,q _ _ (aj.refl _) td⟩⟩
   | many n ks h e wf ly hl er =>
    subst e er;obtain⟨a,xs,rfl,ha,hx⟩:=td.tup_of;have hxl:=hx.length;refine⟨_,rfl,_,"tuple","tuple",true,rfl,.tup ha,cw,true,rfl,aU (iu _ _ (a7 fun nM ig=>?_))⟩;have pd:Paired (OkT (gK kvs) k) ks (ks.map (bz (ba (gK kvs)) n)):=by
     clear td hx hxl hl q
     induction ks with
     | nil=>exact .nil
     | cons c r ih=>exact .cons (.ex n (by omega) (wf c mCS) (ly c mCS) rfl) (ih (fun x hx=>wf x (mCM _ hx)) fun x hx=>ly x (mCM _ hx))
    have two:nM [some (.ref a),some (.ref m),none] H:=by
     refine ig _ _ (a7 fun sS kK=>?_);have fin:sS [some (.ref a),some (.ref m),none] H:=by
      refine kK _ _ ?_;rw[gP,gQ,cq,cn];refine⟨_,rfl,a,rfl,⟨_,ha⟩,fun U hU=>?_⟩;refine g9 (ca (xs:=xs)) hx pd (by omega) hU hm hint (fun Hj sj=>sj.seqT ha) fun Hj ys sj hUj hys=>?_;refine⟨U,ys,rfl,.inl ⟨SqL.of hUj,fun F hF=>?_⟩⟩;have k5:=smu (o:=HO.tup ys) hF;exact q _ _ (sj.trans k5) (.tup (SqT.of pG) (hys.same k5))
     refine⟨_,rfl,a,_,rfl,.inr ha,_,_,rfl,rfl,_,rfl,?_⟩;by_cases hlen:1<ks.length
     · refine pL (by simp;omega) ?_;cases hx with
       | nil=>exact absurd hlen (by decide)
       | @cons x0 d0 xr dr e0 er =>
        have l0:=ly d0 mCS;obtain⟨hd0,r0,ed0⟩:=(wf d0 mCS).form;refine⟨_,rfl,a,_,0,_,rfl,rfl,ha,at0,d0,.str "fun",e0.dat,.str _,l0.shaped (by decide),by decide +kernel,_,rfl,?_⟩;rw[ed0,show PyData.eqv (.tuple (.str hd0::r0)) (.str "fun")=false by simp[PyData.eqv]];exact aU fin
     · refine pK (by simp;omega) (aU fin)
    refine⟨_,rfl,a,_,rfl,.inr ha,_,_,rfl,rfl,_,rfl,?_⟩;by_cases hlen:1<ks.length
    · refine pL (by simp;omega) ?_;cases hx with
      | nil=>exact absurd hlen (by decide)
      | @cons x0 d0 xr dr e0 er =>
       obtain⟨hd0,r0,ed0⟩:=(wf d0 mCS).form;rw[ed0] at e0;obtain⟨c0,z0,rfl,hc0,_⟩:=e0.tup_of;exact⟨_,rfl,a,_,0,_,rfl,rfl,ha,at0,_,"tuple","str",false,rfl,.tup hc0,kd.ts,false,rfl,aU (aU two)⟩
    · exact pK (by simp;omega) (aU two)
   | ex n h wf ly er =>
    cases n with
    | zero=>exact wf.elim
    | succ n =>
    have wf0:=wf;obtain⟨hd,sl,ps,nde,hkid⟩:=wf;have lyk:=nde.ly ly;have nde0:=nde;obtain⟨ed,hmt,hshp,hfew⟩:=nde0;obtain⟨a,xs,rfl,ha,hx⟩:=(show TD K H v (.tuple (.str hd::ps)) from ed▸td).tup_of;obtain⟨x0,xr,rfl,hx0,hxr⟩:∃ x0 xr,xs=x0::xr∧TD K H x0 (.str hd)∧TDs K H xr ps:=by
     cases hx with
     | cons p q=>exact⟨_,_,rfl,p,q⟩
    obtain rfl:=hx0.str_of;have hfl:=Paired.length hshp;have tl:=fi hmt;have tpos:1≤sl.length:=by
     have:∀ p∈tbl,1≤p.2.length:=by decide +kernel
     exact this _ hmt
    have hxl:=hxr.length;have slay:(PyData.str hd).canLay0=true:=by
     rw[ed] at ly;obtain⟨c',e⟩:=jx ly;rw[e] at ly;exact (dS ly _ mCS).1
    refine⟨_,rfl,_,"tuple","tuple",true,rfl,.tup ha,cw,true,rfl,aU (iu _ _ (a7 fun nM ig=>?_))⟩;refine⟨_,rfl,a,_,rfl,.inr ha,_,_,rfl,rfl,_,rfl,pL (by simp;omega) ⟨_,rfl,a,_,0,_,rfl,rfl,ha,at0,_,"str","str",true,rfl,.str hd,cw,true,rfl,bj ⟨_,rfl,a,_,0,_,rfl,rfl,ha,at0,AV,fun t1 ht1=>?_⟩⟩⟩;have k1:=smu (o:=HO.tup (w5.map V.str)) ht1;refine⟨t1,w5.map V.str,rfl,.inr (SqT.of pG),rfl,ck _,_,rfl,?_⟩;rw[dh];have g1:upd H t1 (.tup [V.str "name",V.str "set",V.str "let",V.str "var",V.str "each"])=upd H t1 (.tup (w5.map V.str)):=rfl;rw[g1];generalize upd H t1 (.tup (w5.map V.str))=H1 at k1 ⊢;have ha1:=k1.seqT ha;have hm1:=k1 _ _ hm;have hxr1:=hxr.same k1;cases b1:bN hd w5 with
    | true =>
     obtain⟨i,ks,rfl,hks,hkk,et⟩:=rN (g:=gK kvs) (n:=n) nde b1;rw[et] at er;obtain⟨y0,yr,rfl,e0,hyr⟩:∃ y0 yr,xr=y0::yr∧TD K H1 y0 (.int i)∧TDs K H1 yr ks:=by
      cases hxr1 with
      | cons p q=>exact⟨_,_,rfl,p,q⟩
     obtain rfl:=e0.int_of;have hyl:=hyr.length;refine bj (a7 fun sS kK=>?_);rw[cH,gQ,cq,cn];refine⟨_,rfl,_,rfl,a,_,rfl,ha1,?_,fun p2 hp2=>?_⟩
     · unfold HT.sIx;simp
     · rw[show (some (2:Int))=some (((2:Nat):Nat):Int) from rfl,cF];have k2:=smu (o:=HO.tup ((V.str hd::V.int i::yr).drop 2)) hp2;have hp2':(upd H1 p2 (.tup ((V.str hd::V.int i::yr).drop 2))) p2=some (.tup yr):=pG;generalize upd H1 p2 (.tup ((V.str hd::V.int i::yr).drop 2))=H2 at k2 hp2' ⊢;refine⟨p2,rfl,⟨_,SqT.of hp2'⟩,fun U hU=>?_⟩;have pd:Paired (OkT (gK kvs) k) ks (ks.map (bz (ba (gK kvs)) n)):=by
        have:∀ l:PDs,(∀ x∈l,x∈aE sl (.int i::ks))→Paired (OkT (gK kvs) k) l (l.map (bz (ba (gK kvs)) n)):=by
         intro l
         induction l with
         | nil=>exact fun _=>.nil
         | cons c r ih=>exact fun hl=>.cons (.ex n (by omega) (hkid c (hl c mCS)) (lyk c (hl c mCS)) rfl) (ih fun x hx=>hl x (mCM _ hx))
        exact this ks hkk
       refine g9 (ca (xs:=yr)) (hyr.same k2) pd (by omega) hU (k2 _ _ hm1) hint (fun Hj sj=>SqT.of (sj _ _ hp2')) fun Hj ys sj hUj hys=>?_;refine⟨U,ys,rfl,.inl ⟨SqL.of hUj,fun F hF=>?_⟩⟩;have k5:=smu (o:=HO.tup ys) hF;have t5:TD K (upd Hj F (.tup ys)) (.ref F) (.tuple (ks.map (bz (ba (gK kvs)) n))):=.tup (SqT.of pG) (hys.same k5);refine kK _ _ ?_;generalize upd Hj F (.tup ys)=H5 at k5 t5 ⊢;have K5:=k2.trans (sj.trans k5);have ha5:=K5.seqT ha1;have hm5:=K5 _ _ hm1;refine⟨_,rfl,a,_,0,_,rfl,rfl,ha5,at0,_,rfl,m,rfl,.inl ⟨kvs,.inl hm5⟩,_,rfl,a,_,1,_,rfl,rfl,ha5,at1,_,rfl,a,_,1,_,rfl,rfl,ha5,at1,_,bO.k (k:=.inl i) hm5,gl,fun u hu'=>?_⟩;have k6:=smu (o:=HO.tup [V.str hd,V.int (gK kvs i)]) hu';rw[jA hint];have t6:TD K (upd H5 u (.tup [V.str hd,V.int (gK kvs i)])) (.ref u) (.tuple [.str hd,.int (gK kvs i)]):=.tup (SqT.of pG) (.cons (.str _) (.cons (.int _) .nil));generalize upd H5 u (.tup [V.str hd,V.int (gK kvs i)])=H6 at k6 t6 ⊢;refine⟨_,rfl,dz t6 (t5.same k6) (by rw[lMp];show 2+ks.length≤100000;omega) fun p7 H7 k7 t7=>?_⟩;rw[er] at q;exact q _ _ (k1.trans (K5.trans (k6.trans k7))) t7
    | false =>
     refine aU (ig _ _ (a7 fun sS kK=>?_));refine⟨_,rfl,a,_,rfl,.inr ha1,_,_,rfl,rfl,_,rfl,pL (by simp;omega) ⟨_,rfl,a,_,0,_,rfl,rfl,ha1,at0,.str hd,.str "fun",.str _,.str _,(show Ly 60 (.str hd) from ⟨slay,Nat.zero_le _⟩).shaped (by decide),by decide +kernel,_,rfl,?_⟩⟩;have eqs:PyData.eqv (.str hd) (.str "fun")=decide (hd="fun"):=by
      show (hd==("fun":Str))=_;by_cases c:hd="fun"
      · rw[c];simp
      · rw[decide_eq_false c];exact beq_false_of_ne c
     rw[eqs];by_cases b2:hd="fun"
     · subst b2;refine pL (by simp) ?_;obtain⟨is,b,rfl,hisl,hbk,et⟩:=oM (g:=gK kvs) (n:=n) nde;rw[et] at er;obtain⟨y0,y1,rfl,e0,e1⟩:=ny hxr1;obtain⟨c,ws,rfl,hc,hws⟩:=e0.tup_of;obtain rfl:=jW hws;rw[gP,px,cq,yz,cq,gQ,cq,cn];refine⟨_,rfl,a,_,1,_,rfl,rfl,ha1,at1,c,rfl,⟨_,hc⟩,fun U hU=>?_⟩;refine b5.by (ca (xs:=is.map V.int)) (fun j σ Hj=>aj H1 Hj∧Hj U=some (.lst ((is.take j).map fun i=>V.int (gK kvs i)))∧∃ y,σ=[y,some (.ref m)]) ⟨smu hU,pG,_,rfl⟩ (fun j σ Hj _ z=>z.1.seqT hc) ?_ ?_
       · rintro j u σ Hj huj ⟨sj,hUj,y',rfl⟩;rw[gEM] at huj;obtain⟨i',hi',rfl⟩:=oMS.mp huj;rw[aY,dN];have hmj:=sj _ _ hm1;refine bj ⟨_,rfl,m,rfl,.inl ⟨kvs,.inl hmj⟩,_,rfl,_,rfl,_,bO.k (k:=.inl i') hmj,_,hUj,by rw[lMp,lTk];omega,aD sj hU,?_,_,rfl⟩;rw[pG,tAO,hi',jA hint];simp
       · rintro σ Hj ⟨sj,hUj,y',rfl⟩;rw[lMp,List.take_length] at hUj;refine⟨U,_,rfl,.inl ⟨SqL.of hUj,fun F hF=>?_⟩⟩;have k5:=smu (o:=HO.tup (is.map fun i=>V.int (gK kvs i))) hF;have t5:TD K (upd Hj F (.tup (is.map fun i=>V.int (gK kvs i)))) (.ref F) (.tuple (is.map (cB (gK kvs)∘PyData.int))):=.tup (SqT.of pG) (jX is);generalize upd Hj F (.tup (is.map fun i=>V.int (gK kvs i)))=H5 at k5 t5 ⊢;have K5:=sj.trans k5;refine⟨_,rfl,a,_,2,_,rfl,rfl,K5.seqT ha1,at2,_,rfl,y1,m,b,_,kvs,rfl,e1.same K5,K5 _ _ hm1,hint,.ex n (by omega) (hkid b hbk) (lyk b hbk) rfl,fun v6 H6 k6 t6=>?_⟩;refine⟨eB,fun u hu'=>?_⟩;have k7:=smu (o:=HO.tup [V.str "fun",V.ref F,v6]) hu';rw[er] at q;exact q _ _ (k1.trans (K5.trans (k6.trans k7))) (.tup (SqT.of pG) (.cons (.str _) (.cons ((t5.same k6).same k7) (.cons (t6.same k7) .nil))))
     · refine pK (by simpa using b2) ?_;rw[nu (g:=gK kvs) (n:=n) nde b1 b2] at er;refine kK _ _ ?_;rw[gP,gQ,cq,cn];refine⟨_,rfl,a,rfl,⟨_,ha1⟩,fun U hU=>?_⟩;have pd:Paired (OkT (gK kvs) k) (.str hd::ps) (.str hd::List.zipWith (prt (bz (ba (gK kvs)) n)) sl ps):=by
        refine .cons (.str hd (by omega) rfl rfl) ?_;have gen:∀ (sl':List Str) (ps':PDs),Paired Shp sl' ps'→(∀ s∈sl',s∈sl)→(∀ x∈aE sl' ps',x∈aE sl ps)→(aE sl' ps').length≤8→Paired (OkT (gK kvs) k) ps' (List.zipWith (prt (bz (ba (gK kvs)) n)) sl' ps'):=by
         intro sl' ps' hp
         induction hp with
         | nil=>exact fun _ _ _=>.nil
         | @cons s p sl' ps' hs _ ih =>
          intro h1 h2 h3;rw[ce,lAp] at h3;rw[ce] at h2;refine .cons ?_ (ih (fun s hs=>h1 s (mCM _ hs)) (fun x hx=>h2 x (List.mem_append_right _ hx)) (by omega));have hk:∀ x∈b8 s p,WFd n x:=fun x hx=>hkid x (h2 x (List.mem_append_left _ hx));have hL:∀ x∈b8 s p,Ly 60 x:=fun x hx=>lyk x (h2 x (List.mem_append_left _ hx));obtain⟨m1,m2,m3⟩:=u3 hmt b1 b2 s (h1 s mCS)
          rcases tR hmt (h1 s mCS) with rfl | rfl | z | z | z
          · rw[pZ];exact .ex n (by omega) (hk p (by rw[mG];exact mSg.mpr rfl)) (hL p (by rw[mG];exact mSg.mpr rfl)) rfl
          · obtain⟨l,rfl⟩:=hs.1 rfl;have ek:b8 "many" (.tuple l)=l:=rfl;rw[ek] at hk hL h3;refine .many n l (by omega) rfl hk hL (by omega) rfl
          · obtain⟨i,rfl⟩:=hs.2.1 z;exact .int i (by omega) rfl (fS (fun e=>by rw[e] at z;revert z;decide +kernel) (fun e=>by rw[e] at z;revert z;decide +kernel) _ _)
          · obtain⟨x,rfl⟩:=hs.2.2.1 z;exact .str x (by omega) rfl (fS (fun e=>by rw[e] at z;revert z;decide +kernel) (fun e=>by rw[e] at z;revert z;decide +kernel) _ _)
          · exact absurd z m2
        exact gen sl ps hshp (fun _ h=>h) (fun _ h=>h) hfew
       refine g9 (ca (xs:=V.str hd::xr)) (.cons (.str _) hxr1) pd (by rw[List.length_cons];omega) hU hm1 hint (fun Hj sj=>sj.seqT ha1) fun Hj ys sj hUj hys=>?_;refine⟨U,ys,rfl,.inl ⟨SqL.of hUj,fun F hF=>?_⟩⟩;have k5:=smu (o:=HO.tup ys) hF;rw[er] at q;exact q _ _ (k1.trans (sj.trans k5)) (.tup (SqT.of pG) (hys.same k5))
theorem vK (D:Def K mg "_law_turned" sLt):Fn P w K mg base "_law_turned" 1 ["_law_thing","_law_ids"] (jZ K 0):=by
 refine D.fn vm (fun vs H Q E h=>?_) (fun _ _ _ _ _ _ us hl=>by obtain⟨a,b,rfl⟩:=fW hl;rfl) (fun f cdv A outer s' H vs Q E hr h=>?_)
 · obtain⟨v,m,d,r,kvs,rfl,_⟩:=h;rfl
 · obtain⟨v,m,d,r,kvs,rfl,_,_,_,hok,_⟩:=h;cases hok with
   | int i h=>omega
   | str x h=>omega
   | ex n h=>omega
   | many n ks h=>omega
theorem vJ (D:Def K mg "_law_turned" sLt) (T:Blt mg) (kd:mT K) (k:Nat):Fn P w K mg base "_law_turned" (k+1) ["_law_thing","_law_ids"] (jZ K k):=by
 induction k with
 | zero=>exact vK D
 | succ k ih=>exact zj D T kd ih
end
end K11
namespace L2
open PySem PySem.Spec PyProof.Rows PySem.W
inductive uP (x y:V) (H:Hp) (Q:VK):Prop
  | mk (a b:Addr) (kvs:List (Key×V)) (h1:x=.ref a) (h2:y=.ref b) (h3:H a=some (.dK kvs)) (h4:H b=some (.dK kvs)) (h5:∀ kv∈kvs,∃ i,kv.2=V.int i) (q:Q (.bl false) H):uP x y H Q
def yE:R2:=fun x y H Q=>uP x y H Q
theorem sM {X:Cx} (hu:X.A.units+1<cLine):OpR X (compareOp .NotEq) yE:=by
 intro pins s σ H x y v u Q I rx ry h;obtain⟨a,b,kvs,rfl,rfl,ha,hb,hi,q⟩:=h;cases rx;cases ry;obtain⟨za,na,vs1,r1,d1⟩:=iZ I.hok ha;obtain⟨zb,nb,vs2,r2,d2⟩:=iZ I.hok hb;have l1:=Paired.length r1;have l2:=Paired.length r2;obtain⟨o2,es2,ep2,g1,g2,g3,g4,g5,nd2⟩:=id d2;have hits:KeqHits X.A.in1 s vs2 vs1 true:=by
  have gen:∀ (kv:List (Key×V)) (w1 w2 pre:List (Key×Value)),KV kv w1→KV kv w2→vs2=pre++w2→(∀ p∈kv,∃ i,p.2=V.int i)→KeqHits X.A.in1 s vs2 w1 true:=by
   intro kv
   induction kv with
   | nil=>intro w1 w2 pre k1 _ _ _;cases k1;exact .nil
   | cons p r ih =>
    intro w1 w2 pre k1 k2 e hp;cases k1 with
    | @cons _ p1 _ r1' e1 k1 =>
     cases k2 with
     | @cons _ p2 _ r2' e2 k2 =>
      obtain⟨i,ei⟩:=hp p mCS;have hv:valueAt vs2 p1.1=some p2.2:=valueAt_of_get nd2 (i:=pre.length) (by rw[e,List.getElem?_append_right (Nat.le_refl _),Nat.sub_self];show some p2=_;rw[show p1.1=p2.1 from e1.1.symm.trans e2.1]);have x1:=e1.2;have x2:=e2.2;rw[ei] at x1 x2;obtain⟨t1,y1⟩:=x1;obtain⟨t2,y2⟩:=x2;have he:SeqAt.EqAt X.A.in1 s p1.2 p2.2 true:=by
       rw[y1,y2];have:=SeqAt.EqAt.int_int (A:=X.A.in1) (s:=s) i t1 i t2
       rwa [beq_self_eq_true] at this
      exact KeqHits.hit (e:=true) (b:=true) (k:=p1.1) (v:=p1.2) hv he (ih r1' r2' (pre++[p2]) k1 k2 (by rw[e,List.append_assoc];rfl) fun p hp'=>hp p (mCM _ hp'))
  exact gen kvs vs1 vs2 [] r1 r2 rfl hi
 refine keq_ne na nb d1 d2 (Nat.lt_of_succ_lt hu) (fun _=>hits) ⟨.bl false,H,I,?_,q⟩;rw[show (vs1.length==vs2.length)=true from beq_iff_eq.mpr (l1.symm.trans l2)];rfl
end L2
namespace P10
open PySem L2
theorem nB:∀ {l1 l2:List Int},l1.Nodup→l2.Nodup→l1.Pairwise (·≤·)→l2.Pairwise (·≤·)→(∀ i,i∈l1↔i∈l2)→l1=l2:=by
 intro l1
 induction l1 with
 | nil =>
  intro l2 _ _ _ _ h;cases l2 with
  | nil=>rfl
  | cons b r=>exact absurd ((h b).mpr mCS) nMN
 | cons a r ih =>
  intro l2 n1 n2 p1 p2 h;cases l2 with
  | nil=>exact absurd ((h a).mp mCS) nMN
  | cons b s =>
   obtain⟨na,nr⟩:=List.nodup_cons.mp n1;obtain⟨nb,ns⟩:=List.nodup_cons.mp n2;obtain⟨pa,pr⟩:=List.pairwise_cons.mp p1;obtain⟨pb,ps⟩:=List.pairwise_cons.mp p2;have e:a=b:=by
    rcases List.mem_cons.mp ((h a).mp mCS) with e | e
    · exact e
    · rcases List.mem_cons.mp ((h b).mpr mCS) with e' | e'
      · exact e'.symm
      · have:=pa b e';have:=pb a e;omega
   subst e;rw[ih nr ns pr ps fun i=>?_];constructor
   · intro hi
     rcases List.mem_cons.mp ((h i).mp (mCM _ hi)) with e | e
     · rw[e] at hi;exact absurd hi na
     · exact e
   · intro hi
     rcases List.mem_cons.mp ((h i).mpr (mCM _ hi)) with e | e
     · rw[e] at hi;exact absurd hi nb
     · exact e
theorem rL {n m:Nat} {d:PyData} (wf:WFd n d) (hn:n≤m):WFd m d:=by
 induction n generalizing m d with
 | zero=>exact wf.elim
 | succ n ih =>
  cases m with
  | zero=>omega
  | succ m =>
   obtain⟨h,sl,ps,nd,hk⟩:=wf;exact⟨h,sl,ps,nd,fun x hx=>ih (hk x hx) (by omega)⟩
theorem As:∀ {p:List Nat} {n:Nat} {d e:PyData} {B:List Int},WFd n d→(∀ i,FrD n d i→i∈B)→atD d p=some e→∃ (m:Nat) (B':List Int),m≤n∧WFd m e∧(∀ i,FrD m e i→i∈B')∧B'.length≤B.length+3*p.length:=by
 intro p
 induction p with
 | nil=>exact fun {n d e B} wf cl h=>by cases h;exact⟨n,B,Nat.le_refl _,wf,cl,Nat.le_refl _⟩
 | cons i r ih =>
  intro n d e B wf cl h;have h':(ai d)[i]?.bind (fun x=>atD x r)=some e:=h;obtain⟨x,hx,hr⟩:=Option.bind_eq_some_iff.mp h';cases n with
  | zero=>exact wf.elim
  | succ n =>
   have wx:=wf.kid (mGE hx);obtain⟨h0,sl,ps,nd,wk⟩:=wf;obtain⟨is,eis,hl,_⟩:=cU nd;obtain⟨m,B',h1,h2,h3,h4⟩:=ih (B:=B++is) wx (fun j hj=>by
     by_cases hb:j∈is
     · exact List.mem_append_right _ hb
     · refine List.mem_append_left _ (cl j (.inr ⟨i,x,hx,hj,fun _ c=>hb ?_⟩));have eb:oo d=is.map .int:=by rw[nd.eq];exact eis
       rw[eb] at c;obtain⟨u,hu,e⟩:=List.mem_map.mp c;cases e;exact hu) hr
   refine⟨m,B',by omega,h2,h3,?_⟩;rw[lAp] at h4;show _≤B.length+3*(r.length+1);omega
def oE (kvs:List (Key×V)):Prop:=∀ kv∈kvs,∃ i,kv.2=V.int i
theorem oE.put {kvs:List (Key×V)} (h:oE kvs) (k:Key) (i:Int):oE (bW kvs k (.int i)):=fun kv hkv=>by
 unfold bW at hkv;split at hkv
 · obtain⟨q,hq,rfl⟩:=List.mem_map.mp hkv;split
   · exact⟨i,rfl⟩
   · exact h q hq
 · rcases mAp.mp hkv with z | z
   · exact h kv z
   · rw[mSg.mp z];exact⟨i,rfl⟩
theorem oE.int {kvs:List (Key×V)} (h:oE kvs):oz kvs:=fun i v e=>by
 unfold bi at e;obtain⟨q,hq,rfl⟩:=oMS.mp e;exact h q (List.mem_of_find?_eq_some hq)
end P10
namespace K11
open PySem PySem.SeqAt L2 P10
section
variable {P:Program} {w:World} {K:Fg} {mg:SOV} {base:Heap}
structure Env (P:Program) (w:World) (K:Fg) (H:Hp) (sp c cf:Addr) (skv:NKV) (fvs:List V) (fds:List (Str×Int×PyData)) (v2 v3:V):Prop where
  sp:H sp=some (DN P w sp skv)
  na:df H skv
  c:H c=some (.tup [.ref cf,v2,v3])
  cf:H cf=some (.tup fvs)
  td:TDs K H fvs (fds.map fD)
theorem Env.keep {H H':Hp} {sp c cf:Addr} {skv:NKV} {fvs:List V} {fds:List (Str×Int×PyData)} {v2 v3:V} (e:Env P w K H sp c cf skv fvs fds v2 v3) (k:∀ b o,(∀ kvs,o≠.dK kvs)→H b=some o→H' b=some o):Env P w K H' sp c cf skv fvs fds v2 v3 :=
 ⟨k _ _ (fun _ z=>nomatch z) e.sp,e.na.keep fun c ys z=>k _ _ (fun _ z=>nomatch z) z,k _ _ (fun _ z=>nomatch z) e.c,k _ _ (fun _ z=>nomatch z) e.cf,e.td.tk fun b xs h=>by
   rcases h with h | ⟨o',h⟩
   · exact .inl (k _ _ (fun _ z=>nomatch z) h)
   · exact .inr ⟨o',k _ _ (fun _ z=>nomatch z) h⟩⟩
theorem Pk.mof {H H':Hp} {s a:Addr} {n:Nat} {m:Str→Option V} {ns:List Int} {k:Int} (p:Pk K H s n m a ns k) (mo:Mo H s H'):∀ b o,(∀ kvs,o≠.dK kvs)→H b=some o→H' b=some o:=fun b o ho z=>by
 obtain⟨kvs,h1,_⟩:=p.st;have ne:b≠s:=fun e=>by rw[e,h1] at z;exact ho kvs (Option.some.inj z).symm
 rw[mo b ne];exact z
abbrev jj:Stmt:=top 42
abbrev Bx:List Str:=["_law_script","_law_state","_law_ids","_law_k","_law_handed","_law_node","_law_e","_law_number_here","_law_found"]
inductive rg (K:Fg) (vs:List V) (H:Hp) (Q:VK):Prop
  | mk (a:Addr) (ns:List Int) (g0_:vs=[.ref a]) (g1_:SqL K H a (ns.map V.int)) (g2_:ns.length≤63) (g3_:∀ H',Q (.bl true) H'):rg K vs H Q
def mq (K:Fg):Sp:=fun vs H Q _=>rg K vs H Q
theorem tS:ax Bx ["_law_script"] (a9 jj):=fsM
theorem vN {f:Addr} {fd:FuncData} (F:Fun K "law" "law" jj f fd) (T:Blt mg) (hdict:mg "dict"=none) (hsor:mg "sorted"=none) (lV:Fn P w K mg base "_law_made" 32 ["_law_script"] (xG P w K)) (ab:Fn P w K mg base "_law_pick" 2 ["_law_state","_law_many"] (iw K)) (cG:Fn P w K mg base "_law_parts" 1 ["_law_e"] (rY K)) (bK:Fn P w K mg base "_law_bound_ids" 1 ["_law_e"] (kc K)) (eY:Fn P w K mg base "_law_free" 7 ["_law_e","_law_around"] (oU K 5)) (cu:Fn P w K mg base "_law_turned" 12 ["_law_thing","_law_ids"] (jZ K 11))
 (cY:Fn P w K mg base "bound_by" 1 ["e"] (kc K)) (lZ:Fn P w K mg base "free_ids" 3 ["e"] (xL K)) (jN:Fn P w K mg base "turned_ids" 3 ["e","ids"] (xx K)):iG P w K mg base CX0 33 f fd ["_law_script"] (mq K):=by
 refine F.ok tS (fun vs H Q E h=>?_) (fun cdv A outer s0 H vs Q E hr h=>?_)
 · obtain⟨a,ns,rfl,_⟩:=h;rfl
 · obtain⟨a,ns,rfl,hS,hlen,q⟩:=h;have nd:=tS.nd;have hu:=bS hr;have hz0:(1000000:Nat)<sizeLine:=by decide
   refine⟨_,(pE (pN (i:=1) nd rfl (Or.inl rfl) (ac lV (hr.mono (by decide)) rfl (pA (pv 0) pC)))
 (pE (pN (i:=2) nd rfl (Or.inl rfl) kC)
 (pE (bx PassesOwn.never rfl (bL rfl T.range (pA (ac ab (hr.mono (by decide)) rfl (pA (pv 1) (pA pH pC))) pC)) (ao (i:=3) nd rfl (Or.inl rfl))
 (pI (b7 hu (pv 2) (ac ab (hr.mono (by decide)) rfl (pA (pv 1) (pA pH pC))) (am aG (ag (pA (ac ab (hr.mono (by decide)) rfl (pA (pv 1) (pA pH pC))) (pA (aC bY pH (pv 3)) (pA (aC bY (aC qg pH pH) (pv 3)) pC)))) (ac ab (hr.mono (by decide)) rfl (pA (pv 1) (pA pH pC))) (fun _ _=>rfl)) rfl)))
 (pE (pN (i:=4) nd rfl (Or.inl rfl) (mV hdict (pA (pv 2) pC)))
 (pE (bx PassesOwn.never rfl (sF (pM hu (pv 1) pD (fun _ _=>rfl))) (ao (i:=5) nd rfl (Or.inl rfl))
 (pE (pN (i:=6) nd rfl (Or.inl rfl) (am aB (am aB (am aB (pM hu (pv 1) pD (fun _ _=>rfl)) pH (fun _ _=>rfl)) (am aB (pv 5) pH (fun _ _=>rfl)) (fun _ _=>rfl)) pH (fun _ _=>rfl)))
 (pE (bx PassesOwn.never rfl (fU (am aB (pv 5) pH (fun _ _=>rfl))) (ao (i:=7) nd rfl (Or.inl rfl))
 (pI (pN (i:=6) nd rfl (Or.inl rfl) (am aG (ac cG (hr.mono (by decide)) rfl (pA (pv 6) pC)) (pv 7) (fun _ _=>rfl)))))
 (pE (pN (i:=8) nd rfl (Or.inl rfl) (ac lZ (hr.mono (by decide)) rfl (pA (pv 6) pC)))
 (pE (aN (PW.pt (fw (pO (ln hr.units) (ac cY (hr.mono (by decide)) rfl (pA (pv 6) pC)) (ac bK (hr.mono (by decide)) rfl (pA (pv 6) pC)) (pP _)) (dk (gU (cS (eZ T.isinstance (pA (pv 8) (pA (dn (v:=.ty "tuple") rfl T.tuple cm rfl) pC)))))))) (pI (au fC)) aF)
 (pE (aN (pO (ln hr.units) (pv 8) (bA T.tuple (pA (oD hsor (pA (ac eY (hr.mono (by decide)) rfl (pA (pv 6) (pA (az pC) pC))) pC)) pC)) (pP _)) (pI (au fC)) aF)
 (pI (aN (PW.pt (fw (pO (ln hr.units) (ac jN (hr.mono (by decide)) rfl (pA (pv 6) (pA (pv 4) pC))) (ac cu (hr.mono (by decide)) rfl (pA (pv 6) (pA (pv 2) pC))) (pP _)) (dk (pO (sM hu) (pv 4) (pv 2) (pP _))))) (pI (au fC)) aF))))))))
 (pI (au fC))))))),?_⟩
   dsimp only[bC,bH,bG];refine a7 fun rG iu=>?_;refine⟨_,rfl,a,ns,rfl,hS,hlen,fun s sp c cf skv fvs fds v2 v3 H1 hpk e_sp hna e_c e_cf htd hoe hspo=>?_⟩;obtain⟨a',n,m,k,pk,hk9,m_sp,m_co⟩:=hpk;have env1:Env P w K H1 sp c cf skv fvs fds v2 v3:=⟨e_sp,hna,e_c,e_cf,htd⟩;refine iu _ _ (a7 fun nM ig=>?_);refine fun D hD=>?_;have k1:=smu (o:=HO.dK []) hD;have hD1:(upd H1 D (.dK [])) D=some (.dK []):=pG;have sD:s≠D:=fun e=>by obtain⟨kv,z,_⟩:=pk.st;rw[e,hD] at z;cases z
   generalize upd H1 D (.dK [])=H2 at k1 hD1 ⊢;have pk2:=pk.same k1;have env2:=env1.keep fun b o _ z=>k1 _ _ z;refine ig _ _ (a7 fun sS kK=>?_);refine⟨_,rfl,gD (E:=E0) pk2 (by omega) (by decide) fun r H3 r0 r1 mo3 pk3=>?_⟩;obtain⟨many,rfl⟩:=Int.eq_ofNat_of_zero_le r0;have hD3:H3 D=some (.dK []):=by rw[mo3 D (Ne.symm sD)];exact hD1
   have env3:=env2.keep (pk2.mof mo3);refine⟨_,rfl,by omega,by omega,?_⟩;rw[show ((many:Nat):Int).toNat=many from Int.toNat_natCast _];show aA _ _ _ _ _ _;have gm:∀ (m':Str→Option V) (k':Int) (y:Str),y≠"k"→aH m' "k" (.int k') y=m' y:=fun m' k' y h=>ah _ _ h;refine aA.byN (bv (n:=many)) (fun i σ Hi=>(∃ m' k',Pk K Hi s n m' a' ns k'∧k'≤k+1+3*i∧m' "spans"=some (.ref sp)∧m' "core"=some (.ref c))∧Env P w K Hi sp c cf skv fvs fds v2 v3∧(∃ kvs,Hi D=some (.dK kvs)∧oE kvs∧kvs.length≤i)∧∃ x3,σ=[some (.ref a),some (.ref s),some (.ref D),x3,none,none,none,none,none])
    ⟨⟨_,_,pk3,by omega,by rw[gm _ _ _ (by decide +kernel)];exact m_sp,by rw[gm _ _ _ (by decide +kernel)];exact m_co⟩,env3,⟨[],hD3,fun kv z=>absurd z nMN,Nat.le_refl _⟩,_,rfl⟩ (fun _ _ _ _ _=>trivial) ?_ ?_
   · rintro i y σ Hi N_ B_ hN_ hB_ hy ⟨⟨m',k',pki,hki,ms',mc'⟩,envi,⟨kvs,hDi,hall,hkl⟩,x3,rfl⟩;have hic:i<many:=by have:=(gES.mp hy).1;rw[bp] at this;exact this
     obtain rfl:=e9 hy;refine⟨_,rfl,gD (E:=E0) pki (by omega) (by decide) fun r4 H4 r40 r41 mo4 pk4=>?_⟩;have hD4:H4 D=some (.dK kvs):=by rw[mo4 D (Ne.symm sD)];exact hDi
     have env4:=envi.keep (pki.mof mo4);refine⟨_,rfl,_,_,rfl,rfl,_,_,rfl,rfl,⟨by decide,by decide,by decide⟩,_,rfl,_,_,rfl,rfl,eB,fun L hL=>?_⟩;have k5:=smu (o:=HO.lst [V.int r4,V.int (40+((i:Nat):Int)),V.int (10 ^ (39:Int).toNat+((i:Nat):Int))]) hL;have hL5:(upd H4 L (.lst [V.int r4,V.int (40+((i:Nat):Int)),V.int (10 ^ (39:Int).toNat+((i:Nat):Int))])) L=some (.lst [V.int r4,V.int (40+((i:Nat):Int)),V.int (10 ^ (39:Int).toNat+((i:Nat):Int))]):=pG;have sL:L≠s:=fun e=>by obtain⟨kv,z,_⟩:=pk4.st;rw[← e,hL] at z;cases z
     generalize upd H4 L (.lst [V.int r4,V.int (40+((i:Nat):Int)),V.int (10 ^ (39:Int).toNat+((i:Nat):Int))])=H5 at k5 hL5 ⊢;have pk5:=pk4.same k5;have env5:=env4.keep fun b o _ z=>k5 _ _ z;refine⟨_,rfl,gD (E:=E0) pk5 (by omega) (by decide) fun r6 H6 r60 r61 mo6 pk6=>?_⟩;obtain⟨j6,rfl⟩:=Int.eq_ofNat_of_zero_le r60;have hD6:H6 D=some (.dK kvs):=by rw[mo6 D (Ne.symm sD)];exact k5 _ _ hD4
     have env6:=env5.keep (pk5.mof mo6);have hL6:=(mo6 L sL).trans hL5;obtain⟨iv,hiv⟩:∃ iv:Int,([V.int r4,V.int (40+((i:Nat):Int)),V.int (10 ^ (39:Int).toNat+((i:Nat):Int))]:List V)[j6]?=some (V.int iv):=by
      rcases (show j6=0∨j6=1∨j6=2 by omega) with rfl | rfl | rfl
      · exact⟨_,rfl⟩
      · exact⟨_,rfl⟩
      · exact⟨_,rfl⟩
     refine⟨L,_,_,V.int iv,rfl,rfl,SqL.of hL6,pJ hiv,_,rfl,_,rfl,gD (E:=E0) pk6 (by omega) (by decide) fun r7 H7 r70 r71 mo7 pk7=>?_⟩;have hD7:H7 D=some (.dK kvs):=by rw[mo7 D (Ne.symm sD)];exact hD6
     have env7:=env6.keep (pk6.mof mo7);refine⟨D,_,rfl,dI.k (k:=.inl r7) hD7 (by omega),hN_ _ _ ⟨⟨_,_,⟨?_,pk7.hn,pk7.sc,pk7.ne,?_,pk7.len,pk7.hk,pk7.k0⟩,by omega,?_,?_⟩,env7.keep fun b o ho z=>by rw[aa fun e=>by rw[e,hD7] at z;exact ho _ (Option.some.inj z).symm];exact z,⟨_,pG,hall.put _ _,?_⟩,_,rfl⟩⟩
     · obtain⟨kv,z1,z2⟩:=pk7.st;exact⟨kv,by rw[aa sD];exact z1,z2⟩
     · rcases pk7.sq with (z | ⟨o,z⟩) | z
       · exact .inl (.inl (by rw[aa fun e=>by rw[e,hD7] at z;cases z];exact z))
       · exact .inl (.inr ⟨o,by rw[aa fun e=>by rw[e,hD7] at z;cases z];exact z⟩)
       · exact .inr z
     · rw[gm _ _ _ (by decide +kernel),gm _ _ _ (by decide +kernel),gm _ _ _ (by decide +kernel)];exact ms'
     · rw[gm _ _ _ (by decide +kernel),gm _ _ _ (by decide +kernel),gm _ _ _ (by decide +kernel)];exact mc'
     · have:=bt kvs (.inl r7:Key) (.int iv);omega
   · rintro σ Hi ⟨⟨m',k',pki,hki,ms',mc'⟩,envi,⟨kvs,hDi,hall,hkl⟩,x3,rfl⟩;refine kK _ _ (a7 fun BD wm=>?_);refine⟨_,rfl,D,kvs,rfl,hDi,fun D2 hD2=>?_⟩;have k8:=smu (o:=HO.dK kvs) hD2;have hD28:(upd Hi D2 (.dK kvs)) D2=some (.dK kvs):=pG;have hD8:=k8 _ _ hDi;have env8:=envi.keep fun b o _ z=>k8 _ _ z;generalize upd Hi D2 (.dK kvs)=H8 at k8 hD28 hD8 env8 ⊢;have pk8:=pki.same k8;obtain⟨e_sp,hna,e_c,e_cf,htd⟩:=env8;refine wm _ _ (a7 fun BB wg=>?_);refine⟨_,rfl,s,_,rfl,pk8.st.get ms',sp,skv,rfl,e_sp,fun o=>?_⟩;have keep:∀ {b:Addr} {u:HO},H8 b=some u→(∀ φ,u≠.ext φ)→(upd H8 sp (DNo P w sp o skv)) b=some u:=fun {b u} h hd=>by
      rw[aa fun e=>by rw[e,e_sp] at h;exact hd _ (Option.some.inj h).symm];exact h
     have e_sp2:(upd H8 sp (DNo P w sp o skv)) sp=some (DNo P w sp o skv):=pG;have tk2:Tk H8 (upd H8 sp (DNo P w sp o skv)):=fun b xs h=>by
      rcases h with h | ⟨o',h⟩
      · exact .inl (keep h fun _ z=>nomatch z)
      · exact .inr ⟨o',keep h fun _ z=>nomatch z⟩
     have st9:StV (upd H8 sp (DNo P w sp o skv)) s n m':=by
      obtain⟨kv,z1,z2⟩:=pk8.st;exact⟨kv,keep z1 (fun _ z=>nomatch z),z2⟩
     replace e_c:=keep e_c fun _ z=>nomatch z;replace e_cf:=keep e_cf fun _ z=>nomatch z;replace hD8:=keep hD8 fun _ z=>nomatch z;replace hD28:=keep hD28 fun _ z=>nomatch z;replace htd:=htd.tk tk2;replace hna:df (upd H8 sp (DNo P w sp o skv)) skv:=hna.keep fun c ys z=>keep z fun _ z=>nomatch z;generalize upd H8 sp (DNo P w sp o skv)=H9 at e_sp2 st9 e_c e_cf hD8 hD28 htd hna ⊢;show aA _ _ _ _ _ _;refine aA.byN (jP (P:=P) (w:=w) (d:=sp) (o:=o) (kvs:=skv)) (fun i σ Hi=>aj H9 Hi∧∃ x3 x5 x6 x7 x8,σ=[some (.ref a),some (.ref s),some (.ref D),x3,some (.ref D2),x5,x6,x7,x8])
      ⟨aj.refl _,_,_,_,_,_,rfl⟩ (fun i σ Hi _ z=>z.1 _ _ e_sp2) ?_ ?_
     · rintro i v σ Hi AU B_ zP hB_ hv ⟨si,x3,x5,x6,x7,x8,rfl⟩;rw[gEM] at hv;obtain⟨x,hx,rfl⟩:=oMS.mp hv;have hxm:=mGE hx;obtain⟨fn,path,t,ek,ht,hat0⟩:=hspo x hxm;obtain⟨p,hb0,hp0⟩:=hna x hxm;rw[ek] at hb0 hp0;have hb:Hi x.2.1=some (.tup [V.int ((fn:Nat):Int),.ref p]):=si _ _ hb0;have hp:dX Hi p path:=by
        unfold dX;rw[si _ _ hp0];unfold nk;rw[List.map_map];rfl
       obtain⟨e,hat⟩:∃ e,atD t.2.2 path=some e:=by
        unfold AtP at hat0;cases h:atD t.2.2 path with
        | none=>rw[h] at hat0;cases hat0
        | some e=>exact⟨e,rfl⟩
       obtain⟨B,hBl,okd⟩:=hoe t (mGE ht);have lyd:Ly 10 t.2.2:=okd.ly;have wfd:=okd.wf;have hlen5:=wC wfd hat;have lye:=Aq wfd lyd hat;obtain⟨m5,B',hm5,wfe0,hcl0,hBl'⟩:=As wfd okd.cl hat;have wfe:WFd 5 e:=rL wfe0 hm5;have hcl:∀ i,FrD 5 e i→i∈B':=fun i z=>hcl0 i (mK wfe0 z);have hB6:B'.length<64:=by omega
       have hpre:(b4 5 e).length≤59049:=sE wfe;obtain⟨tv,htv,ttv⟩:=TDs.at (htd.same si) (i:=fn) (d:=fD t) (by rw[gEM,ht];rfl);obtain⟨at',xt,rfl,hat',hxt⟩:=ttv.tup_of;obtain⟨w1,w2,v0,rfl,_,_,td0⟩:=uX hxt;generalize t.2.2=d at hat lyd wfd td0;have a0:∀ {y0 y1:V},atI [y0,y1] 0=some y0:=fun {y0 y1}=>pJ (j:=0) rfl;have a1:∀ {y0 y1:V},atI [y0,y1] 1=some y1:=fun {y0 y1}=>pJ (j:=1) rfl;have b0:∀ {y0 y1 y2:V},atI [y0,y1,y2] 0=some y0:=fun {y0 y1 y2}=>pJ (j:=0) rfl;have b2:∀ {y0 y1 y2:V},atI [y0,y1,y2] 2=some y2:=fun {y0 y1 y2}=>pJ (j:=2) rfl;refine a7 fun Dm BP=>?_;refine⟨_,rfl,s,_,rfl,(st9.same si).get mc',c,_,0,_,rfl,rfl,SqT.of (si _ _ e_c),b0,_,rfl,x.2.1,_,0,_,rfl,rfl,SqT.of hb,a0,cf,fvs,((fn:Nat):Int),.ref at',rfl,rfl,SqT.of (si _ _ e_cf),pJ htv,at',_,2,v0,rfl,rfl,hat',b2,?_⟩;refine BP _ _ (a7 fun DV DS=>?_);refine⟨_,rfl,x.2.1,_,1,_,rfl,rfl,SqT.of hb,a1,p,rfl,⟨_,SqT.of hp⟩,?_⟩;show aA _ _ _ _ _ _;refine aA.byN (ca (xs:=path.map fun n=>V.int ((n:Nat):Int))) (fun j σ Hj=>aj Hi Hj∧∃ (u:V) (m:Nat) (e':PyData) (x7 x8:Option V),σ=[some (.ref a),some (.ref s),some (.ref D),x3,some (.ref D2),some (.ref x.2.1),some u,x7,x8]∧TD K Hj u e'∧WFd m e'∧atD d path=atD e' (path.drop j))
        ⟨aj.refl _,v0,5,d,_,_,rfl,td0,wfd,rfl⟩ (fun j σ Hj _ z=>z.1.seqT (SqT.of hp)) ?_ ?_
       · rintro j y σ Hj Db B_ Aj hB_ hyj ⟨sj,u,m,e',x7,x8,rfl,tu,we,hate⟩;rw[gEM] at hyj;obtain⟨k,hk,rfl⟩:=oMS.mp hyj;have hj:j<path.length:=(gES.mp hk).1;have hdr:path.drop j=k::path.drop (j+1):=by
          rw[List.drop_eq_getElem_cons hj];congr 1;exact (gES.mp hk).2
         rw[hdr] at hate;obtain⟨m',rfl⟩:∃ m',m=m'+1:=by
          cases m with
          | zero=>exact we.elim
          | succ m'=>exact⟨m',rfl⟩
         refine⟨_,rfl,u,e',m',rfl,tu,we,fun L H3 zs s3 hL hL3 hzs=>?_⟩;have hsome:(ai e')[k]?.bind (fun z=>atD z (path.drop (j+1)))=some e:=by
          rw[← hat,hate];rfl
         obtain⟨z,hz,hzr⟩:=Option.bind_eq_some_iff.mp hsome;obtain⟨y,hy,ty⟩:=TDs.at hzs hz;refine⟨_,rfl,L,zs,_,y,rfl,rfl,SqL.of hL3,pJ hy,?_⟩;refine Aj _ _ ?_;exact⟨sj.trans s3,y,m',z,_,_,rfl,ty,we.kid (mGE hz),by rw[hat,hzr]⟩
       rintro σ Hj ⟨sj,u,m5',e',x7,x8,rfl,tu,we,hate⟩;rw[lMp,List.drop_length,hat] at hate;cases hate;refine DS _ _ (a7 fun DU DR=>?_);have SJ:aj H9 Hj:=si.trans sj;refine⟨_,rfl,u,e,5,B',rfl,tu,wfe,by omega,by decide,hcl,hB6,fun tf H10 ys s10 htf hnd hpw hmem=>?_⟩;refine DR _ _ (a7 fun DQ Ch=>?_);have wfe1:=wfe;obtain⟨h',sl,ps,ndd,wk⟩:=wfe1;obtain⟨is,eis,_,_⟩:=cU ndd;have lyI:∀ l:List Int,Ly 1 (.tuple (l.map .int)):=fun l=>hG fun x hx=>by obtain⟨i,_,rfl⟩:=List.mem_map.mp hx;exact⟨rfl,Nat.le_refl _⟩
       have tdI:∀ (Hx:Hp) (l:List Int),TDs K Hx (l.map V.int) (l.map .int):=fun Hx l=>by
        induction l with
        | nil=>exact .nil
        | cons i r ih=>exact .cons (.int _) ih
       have tu10:=tu.same s10;refine⟨_,rfl,u,e,h',sl,ps,rfl,tu10,ndd,fun va H11 s11 t11=>⟨_,rfl,u,e,h',sl,ps,rfl,tu10.same s11,ndd,fun vb H12 s12 t12=>?_⟩⟩;rw[eis] at t11 t12;refine⟨_,_,(t11.same s12).dat,t12.dat,(lyI is).shaped (by decide),(lyI is).shaped (by decide),_,rfl,?_⟩;rw[eqv_refl _ (lyI is).1];have S12:=s11.trans s12;have htf12:=S12 _ _ htf;refine aU ⟨_,rfl,_,"tuple","tuple",true,rfl,.tup (SqT.of htf12),cw,true,rfl,aU (Ch _ _ (a7 fun DP Cg=>?_))⟩;have tu12:=tu10.same S12;refine⟨_,rfl,_,rfl,f9,fun t0 ht0=>?_⟩;have k13:=smu (o:=HO.tup []) ht0;refine⟨u,.ref t0,e,[],rfl,tu12.same k13,wfe,.tup (SqT.of pG) .nil,by decide,by omega,fun L H14 fs s14 hL14 hnd14 hmem14 hlen14=>?_⟩;generalize upd H12 t0 (.tup [])=H13 at k13 s14;have hfs:∀ i,i∈fs↔FrD 5 e i:=fun i=>by rw[hmem14];exact⟨fun z=>z.1,fun z=>⟨z,nMN⟩⟩
       have hf64:fs.length<64:=Nat.lt_of_le_of_lt (lu hnd14 fun i hi=>hcl i ((hfs i).mp hi)) hB6;refine⟨L,fs,rfl,SqL.of hL14,hf64,fun l ys2 hl hperm hpw2=>?_⟩;have k15:=smu (o:=HO.lst (ys2.map V.int)) hl;refine⟨l,_,rfl,.inl ⟨SqL.of pG,fun t2 ht2=>?_⟩⟩;have k16:=smu (o:=HO.tup (ys2.map V.int)) ht2;have ht16:(upd (upd H14 l (.lst (ys2.map V.int))) t2 (.tup (ys2.map V.int))) t2=some (.tup (ys2.map V.int)):=pG;generalize upd (upd H14 l (.lst (ys2.map V.int))) t2 (.tup (ys2.map V.int))=H16 at k16 ht16 ⊢;have S16:aj H12 H16:=k13.trans (s14.trans (k15.trans k16));obtain rfl:ys=ys2:=nB hnd (hperm.nodup_iff.mpr hnd14) hpw hpw2 fun i=>by rw[hmem,hperm.mem_iff,hfs]
       refine⟨_,_,(TD.tup (SqT.of (S16 _ _ htf12)) (tdI _ ys)).dat,(TD.tup (SqT.of ht16) (tdI _ ys)).dat,(lyI ys).shaped (by decide),(lyI ys).shaped (by decide),_,rfl,?_⟩;rw[eqv_refl _ (lyI ys).1];refine aU (Cg _ _ ?_);have tu16:=tu12.same S16;have SS:aj H9 H16:=SJ.trans (s10.trans (S12.trans S16));have lyT:=rP (g:=gK kvs) wfe lye;refine⟨_,rfl,_,rfl,u,D2,e,5,kvs,rfl,tu16,wfe,by omega,SS _ _ hD28,hall.int,fun vt H17 s17 t17=>⟨_,rfl,_,rfl,u,D,e,_,kvs,rfl,tu16.same s17,(SS.trans s17) _ _ hD8,hall.int,.ex 5 (by decide) wfe (lye.more (by decide)) rfl,fun vt2 H18 s18 t18=>?_⟩⟩;refine⟨_,_,(t17.same s18).dat,t18.dat,lyT.shaped (by decide),lyT.shaped (by decide),_,rfl,?_⟩;rw[eqv_refl _ lyT.1];have S18:=SS.trans (s17.trans s18);exact aU ⟨_,rfl,_,rfl,D2,D,kvs,rfl,rfl,S18 _ _ hD28,S18 _ _ hD8,hall,_,rfl,aU (zP _ _ ⟨S18,_,_,_,_,_,rfl⟩)⟩
     · rintro σ Hi ⟨si,x3,x5,x6,x7,x8,rfl⟩;exact wg _ _ (q Hi)
end
def tO (w:World) (es:List DictEntry) (vs:List (Key×Value)):Prop:=Paired (fun (e:DictEntry) (kv:Key×Value)=>∃ x t,kv.1=.inr x∧e.key=.str x t∧e.hash=hashStr w x∧e.val=kv.2) es vs
theorem lI {P:Program} {w:World} {es:List DictEntry} {vs:List (Key×Value)} (h:tO w es vs):Pairs (aw P w) es vs:=by
 induction (show Paired _ es vs from h) with
 | nil=>exact .nil
 | cons z r ih =>
  obtain⟨x,t,e1,e2,e3,e4⟩:=z;exact .cons (by rw[e1,e2];exact dR P w x t) e4 (ih r)
theorem o7 {P:Program} {w:World} {es:List DictEntry} {vs:List (Key×Value)} (h:tO w es vs):∀ e∈es,∃ k,(aw P w).is k e.key=true∧e.hash=(aw P w).hash k:=by
 induction (show Paired _ es vs from h) with
 | nil=>exact fun e h=>by cases h
 | cons z r ih =>
  intro e h;obtain⟨x,t,e1,e2,e3,e4⟩:=z
  rcases List.mem_cons.mp h with rfl | h
  · exact⟨.inr x,by rw[e2];exact dR P w x t,e3⟩
  · exact ih r e h
theorem isd {P:Program} {w:World} {es:List DictEntry} {vs:List (Key×Value)} {ep:Nat} (h:tO w es vs) (nd:(vs.map (·.1)).Nodup):Obj.IsDictOf (aw P w) {cls:=.type "dict",dict:=none,data:=.dict es.toArray ep,slots:=#[]} vs :=
 ⟨es.toArray,ep,⟨rfl,rfl,rfl⟩,rfl,fun e he=>o7 h e (List.mem_toArray.mp he),lI h,nd⟩
theorem l7 {zs:List Str} {its:Array Value} (v:aO (zs.map V.str) its.toList) (h:zs.length≤50):its.size≤sizeLine:=by
 have e:=v.length;rw[lMp] at e;have e2:its.toList.length=its.size:=Array.length_toList;have:(50:Nat)≤sizeLine:=by decide
 lia
def wN (K:Fg):List Row→Prop
  | []=>True
  | e::r=>K.lookup e.2.2.1=some (FT (e.2.2.2.map fun s=>.str s.1 s.2))∧wN K r
def kvE (es:List Row):List (Key×V):=es.map fun e=>(.inr e.1,.ref e.2.2.1)
def vaE (es:List Row):List (Key×Value):=es.map fun e=>(.inr e.1,.ref e.2.2.1)
theorem jT:∀ (l:List (Str×Nat)),aO ((l.map Prod.fst).map V.str) (l.map fun s=>Value.str s.1 s.2):=by
 intro l
 induction l with
 | nil=>exact .nil
 | cons a r ih=>exact .cons ⟨a.2,rfl⟩ ih
theorem vv {K:Fg}:∀ {es:List Row},wN K es→(es.map (·.1)).Nodup→∀ k sl,(k,sl)∈(es.map fun e=>(e.1,e.2.2.2.map Prod.fst))→∃ (r:Addr) (l:List (Str×Nat)),bi (kvE es) (.inr k)=some (.ref r)∧l.map Prod.fst=sl∧K.lookup r=some (FT (l.map fun s=>.str s.1 s.2)):=by
 intro es
 induction es with
 | nil=>exact fun _ _ k sl h=>absurd h nMN
 | cons e r ih =>
  intro ha nd k sl h;obtain⟨n1,n2⟩:=List.nodup_cons.mp nd
  rcases List.mem_cons.mp h with h | h
  · cases h;refine⟨e.2.2.1,e.2.2.2,?_,rfl,ha.1⟩;show (List.find? _ ((_,_)::_)).map _=_;rw[List.find?_cons_of_pos (by simp)];rfl
  · obtain⟨r',l,h1,h2,h3⟩:=ih ha.2 n2 k sl h;refine⟨r',l,?_,h2,h3⟩;have ne:e.1≠k:=fun c=>n1 (by
      obtain⟨e',he',q⟩:=List.mem_map.mp h;exact List.mem_map.mpr ⟨e',he',(congrArg Prod.fst q).trans c.symm⟩)
    show (List.find? _ ((_,_)::_)).map _=_;rw[List.find?_cons_of_neg (by simpa using ne)];exact h1
theorem rQ {P:Program} {w:World} {K:Fg} {mg:SOV} {aR:Addr} {ep:Nat} (es:List Row) (hm:mg "SLOTS"=some (.ref aR)) (hR:K.lookup aR=some (FD w.params (es.map vw) ep)) (sR:(aR==sysModules)=false) (ht:wN K es) (e0:(es.map fun e=>(e.1,e.2.2.2.map Prod.fst))=P10.tbl) (hn:(es.map (·.1)).Nodup) (hw:∀ e∈es,e.2.2.2.length≤50):Glb P w K mg:=by
 have en:∀ l:List Row,tO w ((l.map vw).map fun x=>(⟨PyData.keyHash w.params x.1,.str x.1 x.2.1,x.2.2⟩:DictEntry)) (vaE l):=by
  intro l
  induction l with
  | nil=>exact .nil
  | cons e r ih=>exact .cons ⟨e.1,e.2.1,rfl,rfl,rfl,rfl⟩ ih
 have ek:∀ l:List Row,KV (kvE l) (vaE l):=by
  intro l
  induction l with
  | nil=>exact .nil
  | cons e r ih=>exact .cons ⟨rfl,rfl⟩ ih
 have nv:((vaE es).map (·.1)).Nodup:=by
  unfold vaE;rw[List.map_map];show (es.map ((Sum.inr:Str→Key)∘fun e=>e.1)).Nodup;rw[← List.map_map];refine List.pairwise_map.mpr (hn.imp ?_);exact fun h c=>h (Sum.inr.inj c)
 refine⟨aR,kvE es,hm,⟨_,vaE es,hR,isd (en es) nv,ek es,sR⟩,fun k sl h=>?_⟩;rw[← e0] at h;obtain⟨r,l,h1,h2,h3⟩:=vv ht hn k sl h;have hl:l.length≤50:=by
  obtain⟨e,he,q⟩:=List.mem_map.mp h;have:=hw e he;have q2:=congrArg (List.length∘Prod.snd) q;have q3:=congrArg List.length h2;simp at q2 q3;omega
 refine⟨r,h1,fun H=>.inr ⟨_,_,0,h3,rfl,rfl,?_,?_⟩⟩
 · exact l7 (zs:=l.map Prod.fst) (jT l) (by rw[lMp];exact hl)
 · rw[← h2];exact jT l
theorem aI {K:Fg} {h:Heap} {mg:SOV} {x:Str} {st:Stmt} {f:Addr} {oc:Value} {od an:Option Addr} {osl:Array (Option Value)} {kV doc pm cdv ct:Value} (X:K.In h) (G:h.Ns mainGlobals mg)
 (a:PySem.W.nsIn K mainGlobals x=some (some (.ref f))) (l:K.lookup f=some ⟨oc,od,.func (PySem.W.fnOf x x (cA st) (aQ st) (a9 st) .none kV doc pm an cdv ct),osl⟩)
 (c:PySem.W.codeIn K cdv x=true) (k:PySem.W.keepIn K (.ref f)=true):Def K mg x st:=⟨f,_,qG l c k,PySem.W.mg_of X G a⟩
theorem wD {l:PySem.W.OpenLaw} {w:World} {K:Fg} {h:Heap} {mg:SOV} {fa fl:Addr} (X:K.In h) (G:h.Ns mainGlobals mg) (hfa:mg "law"=some (.ref fa)) (C:Glb l.prog w K mg) (T:Blt mg) (kd:mT K) (hd:mg "dict"=none) (hs:mg "set"=none) (he:mg "enumerate"=none)
 (dCh:Def K mg "children_of" sCh) (dWc:Def K mg "with_children" sWc) (dBb:Def K mg "bound_by" sBb) (dMe:Def K mg "meant_by" sMe) (dWi:Def K mg "with_ids" sWi) (dWk:Def K mg "walked" sWk) (dTo:Def K mg "taken_off" sTo) (dRb:Def K mg "rebuilt" sRb) (dSc:Def K mg "scoped_children" sSc) (dWe:Def K mg "with_entries" sWe) (dFd:Def K mg "free_ids" sFd) (dTi:Def K mg "turned_ids" sTi) (dDraw:Def K mg "_law_draw" gN) (dPk:Def K mg "_law_pick" sPk) (dNm:Def K mg "_law_name" sNm) (dUn:Def K mg "_law_unlike" sUn) (dFo:Def K mg "_law_form" sFo) (dHe:Def K mg "_law_heads" sHe) (dMt:Def K mg "_law_meant" sMt) (dCo:Def K mg "_law_choices" sCo) (dLy:Def K mg "_law_lay" sLy) (dTl:Def K mg "_law_tell" sTl) (dSn:Def K mg "_law_seen" sSn) (dBd:Def K mg "_law_bind" sBd) (dEx:Def K mg "_law_expr" sEx) (dNb:Def K mg "_law_number" sNb) (dIn:Def K mg "_law_inner" sIn) (dSo:Def K mg "_law_some" sSo) (dBo:Def K mg "_law_bound" sBo) (dNa:Def K mg "_law_named" sNa) (dRe:Def K mg "_law_record" sRe) (dPl:Def K mg "_law_plain" sPl) (dFu:Def K mg "_law_fun" sFu) (dFi:Def K mg "_law_fill" sFi) (dMa:Def K mg "_law_made" sMa) (dLb:Def K mg "_law_bound_ids" sLb) (dLp:Def K mg "_law_parts" sLp) (dLf:Def K mg "_law_free" sLf) (dLt:Def K mg "_law_turned" sLt)
 {od an:Option Addr} {osl:Array (Option Value)} {oc kV doc pm cdv ct:Value} (a1:PySem.W.nsIn K mainGlobals "law"=some (some (.ref fl))) (l1:K.lookup fl=some ⟨oc,od,.func (PySem.W.fnOf "law" "law" (cA jj) (aQ jj) (a9 jj) .none kV doc pm an cdv ct),osl⟩) (c1:PySem.W.codeIn K cdv "law"=true) (k1:PySem.W.keepIn K (.ref fl)=true) :
 ∃ fd:FuncData,(∀ (s:Shared) (v:Value),BindsTo s fd ⟨[v],[]⟩ [("_law_script",v)])∧∀ base:Heap,K.In base→base.Ns mainGlobals mg→iG l.prog w K mg base CX0 33 fa fd ["_law_script"] (mq K):=by
 cases hfa.symm.trans (PySem.W.mg_of X G a1);have FL:=qG (st:=jj) l1 c1 k1;refine⟨PySem.W.fnOf "law" "law" (cA jj) (aQ jj) (a9 jj) .none kV doc pm an cdv ct,fun s v=>.of_eq rfl,fun base _ _=>?_⟩;have fCh:=zA (P:=l.prog) (w:=w) (base:=base) dCh T C;have fWc:=yP (P:=l.prog) (w:=w) (base:=base) dWc T C;have fBb:=zD (P:=l.prog) (w:=w) (base:=base) dBb T;have fMe:=zg (P:=l.prog) (w:=w) (base:=base) dMe;have fWi:=yN (P:=l.prog) (w:=w) (base:=base) dWi T C;have fWk:=yM (P:=l.prog) (w:=w) (base:=base) dWk fCh;have fTo:=yR (P:=l.prog) (w:=w) (base:=base) dTo T;have fRb:=yY (P:=l.prog) (w:=w) (base:=base) dRb T fCh fWc fTo;have fSc:=yW (P:=l.prog) (w:=w) (base:=base) dSc T he fCh;have fWe:=yO (P:=l.prog) (w:=w) (base:=base) dWe T hd;have fFd:=zw (P:=l.prog) (w:=w) (base:=base) dFd T hs T.sorted fMe fBb fSc fWe;have fTi:=yT (P:=l.prog) (w:=w) (base:=base) dTi T fBb fWk fWi fRb;have fDraw:=sO (P:=l.prog) (w:=w) (base:=base) dDraw T;have fPk:=z8 (P:=l.prog) (w:=w) (base:=base) dPk T fDraw;have fNm:=z9 (P:=l.prog) (w:=w) (base:=base) dNm T fPk;have fUn:=yQ (P:=l.prog) (w:=w) (base:=base) dUn T fPk fNm;have fFo:=zt (P:=l.prog) (w:=w) (base:=base) dFo T fPk fUn;have fHe:=zp (P:=l.prog) (w:=w) (base:=base) dHe T fPk fFo;have fMt:=zf (P:=l.prog) (w:=w) (base:=base) dMt;have fCo:=zy (P:=l.prog) (w:=w) (base:=base) dCo fMt;have fLy:=zi (P:=l.prog) (w:=w) (base:=base) dLy T;have fTl:=yS (P:=l.prog) (w:=w) (base:=base) dTl;have fSn:=yV (P:=l.prog) (w:=w) (base:=base) dSn T;have fBd:=zC (P:=l.prog) (w:=w) (base:=base) dBd T fTl fLy;have fNb:=zd (P:=l.prog) (w:=w) (base:=base) dNb T fPk fLy;have fEx:Fn l.prog w K mg base "_law_expr" 30 dG (ka l.prog w K 5):=vO (P:=l.prog) (w:=w) (base:=base) ⟨dEx,dIn,dSo,dBo,dNa,dRe,dPl,dFu⟩ T (pkX fPk) (lyX fLy) (tlX fTl) (snX fSn) (nbX fNb) (nmX fNm) (bdX fBd) (coX fCo) (unX fUn) 5;have fFi:=zu (P:=l.prog) (w:=w) (base:=base) dFi T (pkX fPk) (lyX fLy) (tlX fTl) (bdX fBd) fEx;have fMa:=zh (P:=l.prog) (w:=w) (base:=base) dMa T fPk fHe fFi;have fLb:=zn (P:=l.prog) (w:=w) (base:=base) dLb;have fLp:=zk (P:=l.prog) (w:=w) (base:=base) dLp T kd;exact vN FL T hd T.sorted fMa fPk fLp fLb (vL dLf T fLp fLb 5) (vJ dLt T kd 11) fBb fFd fTi
theorem AW {l:PySem.W.OpenLaw} {q:Program} {loose:List Str} {XP:(Str→Option Value)→Heap→Prop} {YP:World→Heap→Prop} {d:DefRec} {K:Params→Fg} (hn:l.most=some 63) (hdf:d.params.defaults=[])
 (hY:∀ (w:World) (h:Heap),YP w h→(K w.params).In h)
 (F:∀ (w:World) (mg:SOV) (fa:Addr) (h:Heap),(K w.params).In h→h.Ns mainGlobals mg→mg d.name=some (.ref fa) →
   ∃ fd:FuncData,(∀ (s:Shared) (u:Value),BindsTo s fd ⟨[u],[]⟩ [("_law_script",u)])∧∀ base:Heap,(K w.params).In base→base.Ns mainGlobals mg→iG l.prog w (K w.params) mg base CX0 33 fa fd ["_law_script"] (mq (K w.params))) :
 PySem.W.WalkO q loose XP YP l.row.toRowW d [] (fun f vs=>PySem.call f vs) :=
 L2.m9 (n:=63) (k:=33) (x:="_law_script") (CX:=fun _=>CX0) (sp:=fun w=>mq (K w.params)) hn (by decide) hdf ⟨rfl,by decide,by decide,rfl⟩ hY F (fun _ _ a ns hl _ hS=>⟨a,ns,rfl,hS,hl,fun _=>rfl⟩) fun _ _ _ _ _ z=>z
theorem lk {K:Fg} {f:Addr} (x:Str) (i:Nat) (m:Value) (c:Nat) (h:K.lookup f=some (FF x i m c)):K.lookup f=some ⟨.type "function",none,.func (PySem.W.fnOf x x (cA (top i)) (aQ (top i)) (a9 (top i)) .none .none .none m none (.ref c) .none),#[]⟩:=h
end K11
open PySem PySem.W PyProof.Rows
set_option maxRecDepth 100000 in
set_option maxHeartbeats 0 in
theorem PySem.Challenge.cw_turnsame_k11_ids_holds : PySem.Challenge.rw_turnsame_k11_ids.Holds := by
 refine K11.preH fun d hdn hdd=>K11.AW (l:=PySem.Challenge.rw_turnsame_k11_ids) rfl hdd (fun w h Y=>PySem.W.kIn_of Y) ?F
 case F =>
  intro w mg fa h X G hmg;rw[hdn] at hmg;have none_:∀ {x:Str},PySem.W.nsIn (K11.KF w.params) mainGlobals x=some none→mg x=none:=fun e=>PySem.W.mg_none_of X G e;refine K11.wD X G hmg (K11.rQ (ep:=17) K11.SL (PySem.W.mg_of X G (show _=some (some (Value.ref 15)) by kernel_rfl)) (by kernel_rfl) (by decide) (by repeat' (first | exact trivial | refine⟨by kernel_rfl,?_⟩)) (by kernel_rfl) (by decide +kernel) (by decide +kernel)) ⟨none_ (by kernel_rfl),none_ (by kernel_rfl),none_ (by kernel_rfl),none_ (by kernel_rfl),none_ (by kernel_rfl),none_ (by kernel_rfl),none_ (by kernel_rfl),none_ (by kernel_rfl)⟩ ⟨by kernel_rfl,by kernel_rfl,by kernel_rfl,by kernel_rfl⟩ (none_ (by kernel_rfl)) (none_ (by kernel_rfl)) (none_ (by kernel_rfl))
   (K11.aI (f:=39) X G (by kernel_rfl) (K11.lk "children_of" 2 K11.M0 38 (by kernel_rfl)) (by kernel_rfl) (by kernel_rfl))
   (K11.aI (f:=46) X G (by kernel_rfl) (K11.lk "with_children" 3 K11.M0 45 (by kernel_rfl)) (by kernel_rfl) (by kernel_rfl))
   (K11.aI (f:=53) X G (by kernel_rfl) (K11.lk "bound_by" 4 K11.M0 52 (by kernel_rfl)) (by kernel_rfl) (by kernel_rfl))
   (K11.aI (f:=60) X G (by kernel_rfl) (K11.lk "meant_by" 5 K11.M0 59 (by kernel_rfl)) (by kernel_rfl) (by kernel_rfl))
   (K11.aI (f:=67) X G (by kernel_rfl) (K11.lk "with_ids" 6 K11.M0 66 (by kernel_rfl)) (by kernel_rfl) (by kernel_rfl))
   (K11.aI (f:=74) X G (by kernel_rfl) (K11.lk "walked" 7 K11.M0 73 (by kernel_rfl)) (by kernel_rfl) (by kernel_rfl))
   (K11.aI (f:=81) X G (by kernel_rfl) (K11.lk "taken_off" 8 K11.M0 80 (by kernel_rfl)) (by kernel_rfl) (by kernel_rfl))
   (K11.aI (f:=88) X G (by kernel_rfl) (K11.lk "rebuilt" 9 K11.M0 87 (by kernel_rfl)) (by kernel_rfl) (by kernel_rfl))
   (K11.aI (f:=93) X G (by kernel_rfl) (K11.lk "scoped_children" 10 K11.M0 92 (by kernel_rfl)) (by kernel_rfl) (by kernel_rfl))
   (K11.aI (f:=100) X G (by kernel_rfl) (K11.lk "with_entries" 11 K11.M0 99 (by kernel_rfl)) (by kernel_rfl) (by kernel_rfl))
   (K11.aI (f:=107) X G (by kernel_rfl) (K11.lk "free_ids" 12 K11.M0 106 (by kernel_rfl)) (by kernel_rfl) (by kernel_rfl))
   (K11.aI (f:=112) X G (by kernel_rfl) (K11.lk "turned_ids" 13 K11.M0 111 (by kernel_rfl)) (by kernel_rfl) (by kernel_rfl))
   (K11.aI (f:=119) X G (by kernel_rfl) (K11.lk "_law_draw" 15 K11.M1 118 (by kernel_rfl)) (by kernel_rfl) (by kernel_rfl))
   (K11.aI (f:=126) X G (by kernel_rfl) (K11.lk "_law_pick" 16 K11.M1 125 (by kernel_rfl)) (by kernel_rfl) (by kernel_rfl))
   (K11.aI (f:=133) X G (by kernel_rfl) (K11.lk "_law_name" 17 K11.M1 132 (by kernel_rfl)) (by kernel_rfl) (by kernel_rfl))
   (K11.aI (f:=140) X G (by kernel_rfl) (K11.lk "_law_unlike" 18 K11.M1 139 (by kernel_rfl)) (by kernel_rfl) (by kernel_rfl))
   (K11.aI (f:=145) X G (by kernel_rfl) (K11.lk "_law_form" 19 K11.M1 144 (by kernel_rfl)) (by kernel_rfl) (by kernel_rfl))
   (K11.aI (f:=152) X G (by kernel_rfl) (K11.lk "_law_heads" 20 K11.M1 151 (by kernel_rfl)) (by kernel_rfl) (by kernel_rfl))
   (K11.aI (f:=157) X G (by kernel_rfl) (K11.lk "_law_meant" 21 K11.M1 156 (by kernel_rfl)) (by kernel_rfl) (by kernel_rfl))
   (K11.aI (f:=164) X G (by kernel_rfl) (K11.lk "_law_choices" 22 K11.M1 163 (by kernel_rfl)) (by kernel_rfl) (by kernel_rfl))
   (K11.aI (f:=171) X G (by kernel_rfl) (K11.lk "_law_lay" 23 K11.M1 170 (by kernel_rfl)) (by kernel_rfl) (by kernel_rfl))
   (K11.aI (f:=178) X G (by kernel_rfl) (K11.lk "_law_tell" 24 K11.M1 177 (by kernel_rfl)) (by kernel_rfl) (by kernel_rfl))
   (K11.aI (f:=183) X G (by kernel_rfl) (K11.lk "_law_seen" 25 K11.M1 182 (by kernel_rfl)) (by kernel_rfl) (by kernel_rfl))
   (K11.aI (f:=190) X G (by kernel_rfl) (K11.lk "_law_bind" 26 K11.M1 189 (by kernel_rfl)) (by kernel_rfl) (by kernel_rfl))
   (K11.aI (f:=195) X G (by kernel_rfl) (K11.lk "_law_expr" 27 K11.M1 194 (by kernel_rfl)) (by kernel_rfl) (by kernel_rfl))
   (K11.aI (f:=202) X G (by kernel_rfl) (K11.lk "_law_number" 28 K11.M1 201 (by kernel_rfl)) (by kernel_rfl) (by kernel_rfl))
   (K11.aI (f:=209) X G (by kernel_rfl) (K11.lk "_law_inner" 29 K11.M1 208 (by kernel_rfl)) (by kernel_rfl) (by kernel_rfl))
   (K11.aI (f:=216) X G (by kernel_rfl) (K11.lk "_law_some" 30 K11.M1 215 (by kernel_rfl)) (by kernel_rfl) (by kernel_rfl))
   (K11.aI (f:=223) X G (by kernel_rfl) (K11.lk "_law_bound" 31 K11.M1 222 (by kernel_rfl)) (by kernel_rfl) (by kernel_rfl))
   (K11.aI (f:=230) X G (by kernel_rfl) (K11.lk "_law_named" 32 K11.M1 229 (by kernel_rfl)) (by kernel_rfl) (by kernel_rfl))
   (K11.aI (f:=237) X G (by kernel_rfl) (K11.lk "_law_record" 33 K11.M1 236 (by kernel_rfl)) (by kernel_rfl) (by kernel_rfl))
   (K11.aI (f:=244) X G (by kernel_rfl) (K11.lk "_law_plain" 34 K11.M1 243 (by kernel_rfl)) (by kernel_rfl) (by kernel_rfl))
   (K11.aI (f:=249) X G (by kernel_rfl) (K11.lk "_law_fun" 35 K11.M1 248 (by kernel_rfl)) (by kernel_rfl) (by kernel_rfl))
   (K11.aI (f:=254) X G (by kernel_rfl) (K11.lk "_law_fill" 36 K11.M1 253 (by kernel_rfl)) (by kernel_rfl) (by kernel_rfl))
   (K11.aI (f:=259) X G (by kernel_rfl) (K11.lk "_law_made" 37 K11.M1 258 (by kernel_rfl)) (by kernel_rfl) (by kernel_rfl))
   (K11.aI (f:=266) X G (by kernel_rfl) (K11.lk "_law_bound_ids" 38 K11.M1 265 (by kernel_rfl)) (by kernel_rfl) (by kernel_rfl))
   (K11.aI (f:=273) X G (by kernel_rfl) (K11.lk "_law_parts" 39 K11.M1 272 (by kernel_rfl)) (by kernel_rfl) (by kernel_rfl))
   (K11.aI (f:=278) X G (by kernel_rfl) (K11.lk "_law_free" 40 K11.M1 277 (by kernel_rfl)) (by kernel_rfl) (by kernel_rfl))
   (K11.aI (f:=283) X G (by kernel_rfl) (K11.lk "_law_turned" 41 K11.M1 282 (by kernel_rfl)) (by kernel_rfl) (by kernel_rfl))
   (fl:=290) (by kernel_rfl) (K11.lk "law" 42 K11.M1 289 (by kernel_rfl)) (by kernel_rfl) (by kernel_rfl)
