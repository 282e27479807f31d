import PyProof.Rows.All
import Wide.All
import OpenK.AllK
import Wide.FinOn
import Lean
import PyProof.EqAt
import PyProof.EqKinds
import PyProof.TupleCall
import KE.KIntText
import KE.IntTextLaws
import PyProof.StrLawsTight
import PyProof.StrLawsReplace
import PyProof.StrLawsIn
import PySem.Challenge.RW_sumcraft_k57_terms_written_and_read
set_option Elab.async false
set_option linter.all false
set_option maxRecDepth 100000
set_option maxHeartbeats 4000000
set_option compiler.extract_closed false
set_option bootstrap.genMatcherCode false
local macro_rules | `(tactic| omega) => `(tactic| first | lia | omega +splitDisjunctions)
noncomputable section
namespace My
open PySem PySem.Spec PyProof.Rows PySem.W
noncomputable def top (i:Nat):Stmt:=PySem.Challenge.pw_sumcraft_k57_terms_written_and_read.main.body.getD i (.Pass ⟨0,0,0,0⟩)
def inCls (s:Stmt) (j:Nat):Stmt:=match s with
 | .ClassDef _ _ _ b _ _ _ _ _ _ _=>b.getD j (.Pass ⟨0,0,0,0⟩)
 | _=>.Pass ⟨0,0,0,0⟩
abbrev s_divisor:Stmt:=top 8
abbrev s_ratio:Stmt:=top 9
abbrev s_low_forms:Stmt:=top 20
abbrev s_within:Stmt:=top 34
abbrev s_check_choose:Stmt:=top 35
abbrev s_check_base:Stmt:=top 36
abbrev s_piece_of:Stmt:=top 37
abbrev s_show_ratio:Stmt:=top 46
abbrev s_show_counted:Stmt:=top 47
abbrev s_show_form:Stmt:=top 48
abbrev s_show_part:Stmt:=top 49
abbrev s_show_term:Stmt:=top 50
abbrev s_read_whole:Stmt:=top 51
abbrev s_read_ratio:Stmt:=top 52
abbrev s_read_counted:Stmt:=top 53
abbrev s_read_form:Stmt:=top 54
abbrev s_read_choose:Stmt:=top 55
abbrev s_read_part:Stmt:=top 56
abbrev s_read_term:Stmt:=top 57
abbrev s__law_cell_at:Stmt:=top 59
abbrev s__law_number:Stmt:=top 60
abbrev s__law_divisor:Stmt:=top 61
abbrev s__law_mixed:Stmt:=top 62
abbrev s__law_forms:Stmt:=top 63
abbrev s__law_ratio:Stmt:=top 64
abbrev s__law_part:Stmt:=top 65
abbrev s__law_parts:Stmt:=top 66
abbrev s__law_form_text:Stmt:=top 67
abbrev s__law_ratio_text:Stmt:=top 68
abbrev s__law_part_text:Stmt:=top 69
abbrev s__law_read:Stmt:=top 70
abbrev s__law_refused:Stmt:=top 71
abbrev s__law_small:Stmt:=top 72
abbrev s_law:Stmt:=top 73
abbrev s_Choose___init__:Stmt:=inCls (top 25) 0
abbrev s_Weight___init__:Stmt:=inCls (top 26) 0
abbrev s_Power___init__:Stmt:=inCls (top 27) 0
abbrev s_Growth___init__:Stmt:=inCls (top 28) 0
abbrev s_Term___init__:Stmt:=inCls (top 39) 0
abbrev s_Term_told:Stmt:=inCls (top 39) 1
noncomputable def kE (P:Params) (x:String) (n:Nat) (v:Value):DictEntry:=⟨PyData.keyHash P (Str.ofString x),.str (Str.ofString x) n,v⟩
noncomputable def kM (x q:Str) (s:Stmt) (m:Str) (k c:Nat):Obj:=match s with
 | .FunctionDef _ a b _ _ _ sc _ _ _=>⟨.type "function",none,.func (fnOf x q a b sc .none .none .none (.str m k) none (.ref c) .none),#[]⟩
 | _=>⟨.none,none,.plain,#[]⟩
def kN (x q:Str) (s:Stmt):Obj:=match s with
 | .FunctionDef _ a b _ _ _ sc _ _ _=>⟨.none,none,.func { name:=x,qualname:=q,params:=a,body:=.stmts b,scope:=sc,globals:=0,closure:=[],defaults:=.none,kwdefaults:=.none },#[]⟩
 | _=>⟨.none,none,.plain,#[]⟩
noncomputable def oT (x:Array Value):Obj:={ cls:=.type "tuple",data:=Data.seq x }
noncomputable def oF (x:Array Value):Obj:={ cls:=.none,data:=Data.fields x }
noncomputable def oK (x:Array Value):Obj:={ cls:=.type "code",data:=Data.fields x }
noncomputable def oB (x:Array Value):Obj:={ cls:=.type "builtin_function_or_method",data:=Data.fields x }
def cp (n:Nat):Value:=.str "/claim/cut.py" n
noncomputable def frC (x q:Str) (n L a f r:Nat) (b:Bool) (c k:Nat):Obj:=oK #[.str x n,.str q (n+1),cp (n+2),.int L 0,.int a 0,.int 0 0,.int 0 0,.int f 0,.ref r,.bool b,.int c 0,.ref (r+1),.none,.ref (r+2),.ref (r+3),.ref (r+4),.int k 0,.int L 0,cp (k+1)]
noncomputable def frT:Nat->List String->List Value
 | _,[]=>[]
 | n,x :: r=>.str (Str.ofString x) n :: frT (n+1) r
noncomputable def frS (n:Nat) (l:List String):Obj:=oT ⟨frT n l⟩
noncomputable def frL (l:List (Nat×Nat)):Obj:=oF ⟨l.flatMap fun p=>[.int p.1 0,.int 0 0,.ref p.2]⟩
noncomputable def frD (e:DictEntry) (l:List DictEntry) (n:Nat):Obj:={ cls:=.type "dict",data:=Data.dict ⟨e :: l⟩ n }
def ob11:Obj:=oT #[]
def ob12:Obj:=oF #[]
def ob13:Obj:=oK #[.str "<module>" 182,.str "<module>" 183,cp 184,.int 1 0,.int 0 0,.int 0 0,.int 0 0,.int 0 0,.ref 11,.bool false,.int 181 0,.ref 12,.none,.none,.none,.none,.int 185 0,.int 1 0,cp 186]
def ob14:Obj:={ cls:=.type "frame",slots:=#[some (.ref 13),some (.ref 3),some (.ref 3),none,some (.str "__main__" 164),none,some (.ref 0)] }
noncomputable def frM0 (P:Params):List DictEntry:=[kE P "__doc__" 166 (.none),kE P "__package__" 167 (.none),kE P "__loader__" 168 (.builtin "__main__.__loader__#opaque"),kE P "__spec__" 169 (.none),kE P "__annotations__" 170 (.ref 6),kE P "__builtins__" 171 (.ref 4),kE P "__file__" 173 (cp 172),kE P "__cached__" 174 (.none),kE P "SumError" 206 (.ref 24),kE P "NoNumber" 222 (.ref 37),kE P "NoTerm" 238 (.ref 49),kE P "LONG" 242 (.int 4000 241),kE P "WINDOW" 244 (.int 300 243),kE P "shortened" 261 (.ref 58),kE P "divisor" 273 (.ref 65),kE P "ratio" 282 (.ref 72),kE P "bare" 290 (.ref 77),kE P "pair_times" 304 (.ref 84),kE P "pair_of_form" 311 (.ref 91),kE P "pair_product" 320 (.ref 98),kE P "FEW" 324 (.int 16 323),kE P "form_value" 333 (.ref 105),kE P "raised" 341 (.ref 112),kE P "raised_from" 347 (.ref 117),kE P "low_forms" 355 (.ref 124),kE P "power_of" 365 (.ref 131),kE P "run_product" 376 (.ref 138),kE P "choices" 385 (.ref 145),kE P "Part" 449 (.ref 190)]
noncomputable def ob3 (P:Params):Obj:=frD (kE P "__name__" 165 (.str "sumcraft.parts" 321)) (frM0 P) 30
def ob12':Obj:=frL [(2,20),(4,33),(6,45),(11,57),(27,64),(39,71),(47,76),(49,83),(56,90),(58,97),(65,104),(67,111),(69,116),(71,123),(73,130),(78,137),(86,144),(89,151)]
def ob15:Obj:=oT #[.type "ValueError"]
def ob16:Obj:=oB #[.builtin "type.__prepare__",.type "type"]
def ob17 (P:Params):Obj:={ cls:=.type "dict",data:=Data.dict #[kE P "__module__" 196 (.str "sumcraft.errors" 187),kE P "__qualname__" 198 (.str "SumError" 197),kE P "__firstlineno__" 200 (.int 2 199),kE P "__static_attributes__" 201 (.ref 22)] 4 }
def ob20:Obj:=oK #[.str "SumError" 191,.str "SumError" 192,cp 193,.int 2 0,.int 0 0,.int 0 0,.int 0 0,.int 0 0,.ref 18,.bool false,.int 181 0,.ref 19,.none,.none,.none,.none,.int 194 0,.int 2 0,cp 195]
def ob21:Obj:={ cls:=.type "frame",slots:=#[some (.ref 20),some (.ref 3),some (.ref 17),none,some (.str "sumcraft.errors" 187),none,some (.ref 0)] }
def ob23 (P:Params):Obj:={ cls:=.type "dict",data:=Data.dict #[kE P "__module__" 196 (.str "sumcraft.errors" 187),kE P "__firstlineno__" 200 (.int 2 199),kE P "__static_attributes__" 201 (.ref 22),kE P "__weakref__" 203 (.ref 25),kE P "__doc__" 204 (.none)] 3 }
def ob24:Obj:={ cls:=.type "type",data:=Data.cls { name := "SumError",bases:=[.type "ValueError"],mro:=[.ref 24,.type "ValueError",.type "Exception",.type "BaseException",.type "object"],ns:=23,qualname := "SumError",subclasses:=[.ref 37,.ref 49] },slots:=#[some (.ref 15),none,some (.str "SumError" 189),some (.str "SumError" 197),some (.builtin "ValueError.__new__"),some (.bool true)] }
def ob25:Obj:={ cls:=.type "getset_descriptor",data:=Data.fields #[.str "__weakref__" 202,.ref 24,.builtin "ExceptionGroup.__weakref__",.none] }
def ob26:Obj:={ cls:=.type "super",data:=Data.fields #[.ref 24,.ref 24,.ref 24] }
def ob27:Obj:=oB #[.builtin "object.__init_subclass__",.ref 24]
def ob28:Obj:=oT #[.ref 24]
def ob30 (P:Params):Obj:={ cls:=.type "dict",data:=Data.dict #[kE P "__module__" 214 (.str "sumcraft.errors" 187),kE P "__qualname__" 216 (.str "NoNumber" 215),kE P "__firstlineno__" 218 (.int 4 217),kE P "__static_attributes__" 219 (.ref 35)] 4 }
def ob33:Obj:=oK #[.str "NoNumber" 209,.str "NoNumber" 210,cp 211,.int 4 0,.int 0 0,.int 0 0,.int 0 0,.int 0 0,.ref 31,.bool false,.int 181 0,.ref 32,.none,.none,.none,.none,.int 212 0,.int 4 0,cp 213]
def ob34:Obj:={ cls:=.type "frame",slots:=#[some (.ref 33),some (.ref 3),some (.ref 30),none,some (.str "sumcraft.errors" 187),none,some (.ref 0)] }
def ob36 (P:Params):Obj:={ cls:=.type "dict",data:=Data.dict #[kE P "__module__" 214 (.str "sumcraft.errors" 187),kE P "__firstlineno__" 218 (.int 4 217),kE P "__static_attributes__" 219 (.ref 35),kE P "__doc__" 220 (.none)] 2 }
def ob37:Obj:={ cls:=.type "type",data:=Data.cls { name := "NoNumber",bases:=[.ref 24],mro:=[.ref 37,.ref 24,.type "ValueError",.type "Exception",.type "BaseException",.type "object"],ns:=36,qualname := "NoNumber" },slots:=#[some (.ref 28),none,some (.str "NoNumber" 207),some (.str "NoNumber" 215),some (.builtin "ValueError.__new__"),some (.bool true)] }
def ob38:Obj:={ cls:=.type "super",data:=Data.fields #[.ref 37,.ref 37,.ref 37] }
def ob39:Obj:=oB #[.builtin "object.__init_subclass__",.ref 37]
def ob42 (P:Params):Obj:={ cls:=.type "dict",data:=Data.dict #[kE P "__module__" 230 (.str "sumcraft.errors" 187),kE P "__qualname__" 232 (.str "NoTerm" 231),kE P "__firstlineno__" 234 (.int 6 233),kE P "__static_attributes__" 235 (.ref 47)] 4 }
def ob45:Obj:=oK #[.str "NoTerm" 225,.str "NoTerm" 226,cp 227,.int 6 0,.int 0 0,.int 0 0,.int 0 0,.int 0 0,.ref 43,.bool false,.int 181 0,.ref 44,.none,.none,.none,.none,.int 228 0,.int 6 0,cp 229]
def ob46:Obj:={ cls:=.type "frame",slots:=#[some (.ref 45),some (.ref 3),some (.ref 42),none,some (.str "sumcraft.errors" 187),none,some (.ref 0)] }
def ob48 (P:Params):Obj:={ cls:=.type "dict",data:=Data.dict #[kE P "__module__" 230 (.str "sumcraft.errors" 187),kE P "__firstlineno__" 234 (.int 6 233),kE P "__static_attributes__" 235 (.ref 47),kE P "__doc__" 236 (.none)] 2 }
def ob49:Obj:={ cls:=.type "type",data:=Data.cls { name := "NoTerm",bases:=[.ref 24],mro:=[.ref 49,.ref 24,.type "ValueError",.type "Exception",.type "BaseException",.type "object"],ns:=48,qualname := "NoTerm" },slots:=#[some (.ref 40),none,some (.str "NoTerm" 223),some (.str "NoTerm" 231),some (.builtin "ValueError.__new__"),some (.bool true)] }
def ob50:Obj:={ cls:=.type "super",data:=Data.fields #[.ref 49,.ref 49,.ref 49] }
def ob51:Obj:=oB #[.builtin "object.__init_subclass__",.ref 49]
def ob54:Obj:=frS 248 ["big","small","cut","ahead","behind","half","upper","lower","times","rest","further"]
def ob56:Obj:=kN "shortened" "shortened" (top 7)
def ob57:Obj:=frC "shortened" "shortened" 245 11 2 3 52 true 181 259
def ob58:Obj:=kM "shortened" "shortened" (top 7) "sumcraft.ratios" 239 57
def ob61:Obj:=frS 265 ["one","other","big","small","pair","rest"]
def ob63:Obj:=kN "divisor" "divisor" (top 8)
def ob64:Obj:=frC "divisor" "divisor" 262 27 2 3 59 true 181 271
def ob65:Obj:=kM "divisor" "divisor" (top 8) "sumcraft.ratios" 239 64
def ob68:Obj:=frS 277 ["top","bottom","shared"]
def ob70:Obj:=kN "ratio" "ratio" (top 9)
def ob71:Obj:=frC "ratio" "ratio" 274 39 2 3 66 true 181 280
def ob72:Obj:=kM "ratio" "ratio" (top 9) "sumcraft.ratios" 239 71
def ob75:Obj:=kN "bare" "bare" (top 11)
def ob76:Obj:=oK #[.str "bare" 285,.str "bare" 286,cp 287,.int 47 0,.int 1 0,.int 0 0,.int 0 0,.int 3 0,.ref 73,.bool true,.int 181 0,.ref 74,.none,.none,.none,.ref 75,.int 288 0,.int 47 0,cp 289]
def ob77:Obj:=kM "bare" "bare" (top 11) "sumcraft.pairs" 283 76
def ob80:Obj:=frS 294 ["one","other","answer","low","number","high","factor","powers"]
def ob82:Obj:=kN "pair_times" "pair_times" (top 12)
def ob83:Obj:=frC "pair_times" "pair_times" 291 49 2 3 78 true 181 302
def ob84:Obj:=kM "pair_times" "pair_times" (top 12) "sumcraft.pairs" 283 83
def ob87:Obj:=oT #[.str "form" 308]
def ob89:Obj:=kN "pair_of_form" "pair_of_form" (top 13)
def ob90:Obj:=frC "pair_of_form" "pair_of_form" 305 56 1 3 85 true 181 309
def ob91:Obj:=kM "pair_of_form" "pair_of_form" (top 13) "sumcraft.pairs" 283 90
def ob94:Obj:=frS 315 ["pairs","answer","pair"]
def ob96:Obj:=kN "pair_product" "pair_product" (top 14)
def ob97:Obj:=frC "pair_product" "pair_product" 312 58 1 3 92 true 181 318
def ob98:Obj:=kM "pair_product" "pair_product" (top 14) "sumcraft.pairs" 283 97
def ob101:Obj:=frS 328 ["form","n","k"]
def ob103:Obj:=kN "form_value" "form_value" (top 17)
def ob104:Obj:=frC "form_value" "form_value" 325 65 3 3 99 true 181 331
def ob105:Obj:=kM "form_value" "form_value" (top 17) "sumcraft.parts" 321 104
def ob108:Obj:=frS 337 ["form","by"]
def ob110:Obj:=kN "raised" "raised" (top 18)
def ob111:Obj:=frC "raised" "raised" 334 67 2 3 106 true 181 339
def ob112:Obj:=kM "raised" "raised" (top 18) "sumcraft.parts" 321 111
def ob115:Obj:=kN "raised_from" "raised_from" (top 19)
def ob116:Obj:=oK #[.str "raised_from" 342,.str "raised_from" 343,cp 344,.int 69 0,.int 3 0,.int 0 0,.int 0 0,.int 3 0,.ref 113,.bool true,.int 181 0,.ref 114,.none,.none,.none,.ref 115,.int 345 0,.int 69 0,cp 346]
def ob117:Obj:=kM "raised_from" "raised_from" (top 19) "sumcraft.parts" 321 116
def ob120:Obj:=frS 351 ["upper","lower"]
def ob122:Obj:=kN "low_forms" "low_forms" (top 20)
def ob123:Obj:=frC "low_forms" "low_forms" 348 71 2 3 118 true 181 353
def ob124:Obj:=kM "low_forms" "low_forms" (top 20) "sumcraft.parts" 321 123
def ob127:Obj:=frS 359 ["number","exponent","answer","step"]
def ob129:Obj:=kN "power_of" "power_of" (top 21)
def ob130:Obj:=frC "power_of" "power_of" 356 73 2 3 125 true 181 363
def ob131:Obj:=kM "power_of" "power_of" (top 21) "sumcraft.parts" 321 130
def ob134:Obj:=frS 369 ["low","high","answer","number","middle"]
def ob136:Obj:=kN "run_product" "run_product" (top 22)
def ob137:Obj:=frC "run_product" "run_product" 366 78 2 3 132 true 181 374
def ob138:Obj:=kM "run_product" "run_product" (top 22) "sumcraft.parts" 321 137
def ob141:Obj:=frS 380 ["one","other","few"]
def ob143:Obj:=kN "choices" "choices" (top 23)
def ob144:Obj:=frC "choices" "choices" 377 86 2 3 139 true 181 383
def ob145:Obj:=kM "choices" "choices" (top 23) "sumcraft.parts" 321 144
def ob148 (P:Params):Obj:={ cls:=.type "dict",data:=Data.dict #[kE P "__module__" 393 (.str "sumcraft.parts" 321),kE P "__qualname__" 395 (.str "Part" 394),kE P "__firstlineno__" 397 (.int 89 396),kE P "worth" 406 (.ref 159),kE P "step" 415 (.ref 166),kE P "up" 423 (.ref 173),kE P "down" 431 (.ref 180),kE P "floor" 441 (.ref 187),kE P "__static_attributes__" 442 (.ref 188)] 9 }
def ob150:Obj:=oF #[.int 91 0,.int 4 0,.ref 158,.int 94 0,.int 4 0,.ref 165,.int 97 0,.int 4 0,.ref 172,.int 100 0,.int 4 0,.ref 179,.int 103 0,.int 4 0,.ref 186]
def ob151:Obj:=oK #[.str "Part" 388,.str "Part" 389,cp 390,.int 89 0,.int 0 0,.int 0 0,.int 0 0,.int 0 0,.ref 149,.bool false,.int 181 0,.ref 150,.none,.none,.none,.none,.int 391 0,.int 89 0,cp 392]
def ob152:Obj:={ cls:=.type "frame",slots:=#[some (.ref 151),some (.ref 3),some (.ref 148),none,some (.str "sumcraft.parts" 321),none,some (.ref 0)] }
def ob155:Obj:=frS 401 ["self","n","k"]
def ob157:Obj:=kN "worth" "Part.worth" (inCls (top 24) 0)
def ob158:Obj:=frC "worth" "Part.worth" 398 91 3 3 153 true 181 404
def ob159:Obj:=kM "worth" "Part.worth" (inCls (top 24) 0) "sumcraft.parts" 321 158
def ob162:Obj:=frS 410 ["self","i","far"]
def ob164:Obj:=kN "step" "Part.step" (inCls (top 24) 1)
def ob165:Obj:=frC "step" "Part.step" 407 94 3 3 160 true 181 413
def ob166:Obj:=kM "step" "Part.step" (inCls (top 24) 1) "sumcraft.parts" 321 165
def ob169:Obj:=frS 419 ["self","far"]
def ob171:Obj:=kN "up" "Part.up" (inCls (top 24) 2)
def ob172:Obj:=frC "up" "Part.up" 416 97 2 3 167 true 181 421
def ob173:Obj:=kM "up" "Part.up" (inCls (top 24) 2) "sumcraft.parts" 321 172
def ob176:Obj:=frS 427 ["self","far"]
def ob178:Obj:=kN "down" "Part.down" (inCls (top 24) 3)
def ob179:Obj:=frC "down" "Part.down" 424 100 2 3 174 true 181 429
def ob180:Obj:=kM "down" "Part.down" (inCls (top 24) 3) "sumcraft.parts" 321 179
def ob183:Obj:=frS 435 ["self","n","k","far"]
def ob185:Obj:=kN "floor" "Part.floor" (inCls (top 24) 4)
def ob186:Obj:=frC "floor" "Part.floor" 432 103 4 3 181 true 181 439
def ob187:Obj:=kM "floor" "Part.floor" (inCls (top 24) 4) "sumcraft.parts" 321 186
def ob189 (P:Params):Obj:={ cls:=.type "dict",data:=Data.dict #[kE P "__module__" 393 (.str "sumcraft.parts" 321),kE P "__firstlineno__" 397 (.int 89 396),kE P "worth" 406 (.ref 159),kE P "step" 415 (.ref 166),kE P "up" 423 (.ref 173),kE P "down" 431 (.ref 180),kE P "floor" 441 (.ref 187),kE P "__static_attributes__" 442 (.ref 188),kE P "__dict__" 444 (.ref 191),kE P "__weakref__" 446 (.ref 192),kE P "__doc__" 447 (.none)] 4 }
def ob190:Obj:={ cls:=.type "type",data:=Data.cls { name := "Part",bases:=[.type "object"],mro:=[.ref 190,.type "object"],ns:=189,qualname := "Part" },slots:=#[none,none,some (.str "Part" 386),some (.str "Part" 394),some (.builtin "object.__new__"),some (.bool true)] }
def ob191:Obj:={ cls:=.type "getset_descriptor",data:=Data.fields #[.str "__dict__" 443,.ref 190,.builtin "function.__dict__",.builtin "function.__dict__#set"] }
def ob192:Obj:={ cls:=.type "getset_descriptor",data:=Data.fields #[.str "__weakref__" 445,.ref 190,.builtin "ExceptionGroup.__weakref__",.none] }
def ob193:Obj:={ cls:=.type "super",data:=Data.fields #[.ref 190,.ref 190,.ref 190] }
def ob194:Obj:=oB #[.builtin "object.__init_subclass__",.ref 190]
noncomputable def frM1 (P:Params):List DictEntry:=frM0 P++[kE P "Choose" 528 (.ref 249),kE P "Weight" 571 (.ref 282),kE P "Power" 631 (.ref 329),kE P "Growth" 684 (.ref 369)]
noncomputable def ob3' (P:Params):Obj:=frD (kE P "__name__" 165 (.str "sumcraft.parts" 321)) (frM1 P) 34
def ob12'':Obj:=frL [(2,20),(4,33),(6,45),(11,57),(27,64),(39,71),(47,76),(49,83),(56,90),(58,97),(65,104),(67,111),(69,116),(71,123),(73,130),(78,137),(86,144),(89,151),(105,200),(141,257),(151,290),(167,337)]
def ob190':Obj:={ cls:=.type "type",data:=Data.cls { name := "Part",bases:=[.type "object"],mro:=[.ref 190,.type "object"],ns:=189,qualname := "Part",subclasses:=[.ref 249,.ref 282,.ref 329,.ref 369] },slots:=#[none,none,some (.str "Part" 386),some (.str "Part" 394),some (.builtin "object.__new__"),some (.bool true)] }
def ob195:Obj:=oT #[.ref 190]
def ob197 (P:Params):Obj:={ cls:=.type "dict",data:=Data.dict #[kE P "__module__" 457 (.str "sumcraft.parts" 321),kE P "__qualname__" 459 (.str "Choose" 458),kE P "__firstlineno__" 461 (.int 105 460),kE P "__init__" 470 (.ref 208),kE P "lifted" 476 (.ref 213),kE P "worth" 485 (.ref 220),kE P "step" 496 (.ref 227),kE P "up" 506 (.ref 234),kE P "down" 516 (.ref 241),kE P "floor" 522 (.ref 246),kE P "__static_attributes__" 525 (.ref 247)] 11 }
def ob199:Obj:=oF #[.int 107 0,.int 4 0,.ref 207,.int 111 0,.int 4 0,.ref 212,.int 114 0,.int 4 0,.ref 219,.int 117 0,.int 4 0,.ref 226,.int 123 0,.int 4 0,.ref 233,.int 129 0,.int 4 0,.ref 240,.int 135 0,.int 4 0,.ref 245]
def ob200:Obj:=oK #[.str "Choose" 452,.str "Choose" 453,cp 454,.int 105 0,.int 0 0,.int 0 0,.int 0 0,.int 0 0,.ref 198,.bool false,.int 181 0,.ref 199,.none,.none,.none,.none,.int 455 0,.int 105 0,cp 456]
def ob201:Obj:={ cls:=.type "frame",slots:=#[some (.ref 200),some (.ref 3),some (.ref 197),none,some (.str "sumcraft.parts" 321),none,some (.ref 0)] }
def ob204:Obj:=frS 465 ["self","upper","lower"]
def ob206:Obj:=kN "__init__" "Choose.__init__" (inCls (top 25) 0)
def ob207:Obj:=frC "__init__" "Choose.__init__" 462 107 3 3 202 true 181 468
def ob208:Obj:=kM "__init__" "Choose.__init__" (inCls (top 25) 0) "sumcraft.parts" 321 207
def ob211:Obj:=kN "lifted" "Choose.lifted" (inCls (top 25) 1)
def ob212:Obj:=oK #[.str "lifted" 471,.str "Choose.lifted" 472,cp 473,.int 111 0,.int 2 0,.int 0 0,.int 0 0,.int 3 0,.ref 209,.bool true,.int 181 0,.ref 210,.none,.none,.none,.ref 211,.int 474 0,.int 111 0,cp 475]
def ob213:Obj:=kM "lifted" "Choose.lifted" (inCls (top 25) 1) "sumcraft.parts" 321 212
def ob216:Obj:=frS 480 ["self","n","k"]
def ob218:Obj:=kN "worth" "Choose.worth" (inCls (top 25) 2)
def ob219:Obj:=frC "worth" "Choose.worth" 477 114 3 3 214 true 181 483
def ob220:Obj:=kM "worth" "Choose.worth" (inCls (top 25) 2) "sumcraft.parts" 321 219
def ob223:Obj:=frS 489 ["self","i","far","factors","low"]
def ob225:Obj:=kN "step" "Choose.step" (inCls (top 25) 3)
def ob226:Obj:=frC "step" "Choose.step" 486 117 3 3 221 true 181 494
def ob227:Obj:=kM "step" "Choose.step" (inCls (top 25) 3) "sumcraft.parts" 321 226
def ob230:Obj:=frS 500 ["self","far","factors","low"]
def ob232:Obj:=kN "up" "Choose.up" (inCls (top 25) 4)
def ob233:Obj:=frC "up" "Choose.up" 497 123 2 3 228 true 181 504
def ob234:Obj:=kM "up" "Choose.up" (inCls (top 25) 4) "sumcraft.parts" 321 233
def ob237:Obj:=frS 510 ["self","far","factors","low"]
def ob239:Obj:=kN "down" "Choose.down" (inCls (top 25) 5)
def ob240:Obj:=frC "down" "Choose.down" 507 129 2 3 235 true 181 514
def ob241:Obj:=kM "down" "Choose.down" (inCls (top 25) 5) "sumcraft.parts" 321 240
def ob244:Obj:=kN "floor" "Choose.floor" (inCls (top 25) 6)
def ob245:Obj:=oK #[.str "floor" 517,.str "Choose.floor" 518,cp 519,.int 135 0,.int 4 0,.int 0 0,.int 0 0,.int 3 0,.ref 242,.bool true,.int 181 0,.ref 243,.none,.none,.none,.ref 244,.int 520 0,.int 135 0,cp 521]
def ob246:Obj:=kM "floor" "Choose.floor" (inCls (top 25) 6) "sumcraft.parts" 321 245
def ob247:Obj:=frS 523 ["above","lows"]
def ob248 (P:Params):Obj:={ cls:=.type "dict",data:=Data.dict #[kE P "__module__" 457 (.str "sumcraft.parts" 321),kE P "__firstlineno__" 461 (.int 105 460),kE P "__init__" 470 (.ref 208),kE P "lifted" 476 (.ref 213),kE P "worth" 485 (.ref 220),kE P "step" 496 (.ref 227),kE P "up" 506 (.ref 234),kE P "down" 516 (.ref 241),kE P "floor" 522 (.ref 246),kE P "__static_attributes__" 525 (.ref 247),kE P "__doc__" 526 (.none)] 2 }
def ob249:Obj:={ cls:=.type "type",data:=Data.cls { name := "Choose",bases:=[.ref 190],mro:=[.ref 249,.ref 190,.type "object"],ns:=248,qualname := "Choose" },slots:=#[some (.ref 195),none,some (.str "Choose" 450),some (.str "Choose" 458),some (.builtin "object.__new__"),some (.bool true)] }
def ob250:Obj:={ cls:=.type "super",data:=Data.fields #[.ref 249,.ref 249,.ref 249] }
def ob251:Obj:=oB #[.builtin "object.__init_subclass__",.ref 249]
def ob254 (P:Params):Obj:={ cls:=.type "dict",data:=Data.dict #[kE P "__module__" 536 (.str "sumcraft.parts" 321),kE P "__qualname__" 538 (.str "Weight" 537),kE P "__firstlineno__" 540 (.int 141 539),kE P "__init__" 548 (.ref 265),kE P "worth" 557 (.ref 272),kE P "step" 566 (.ref 279),kE P "__static_attributes__" 568 (.ref 280)] 7 }
def ob256:Obj:=oF #[.int 143 0,.int 4 0,.ref 264,.int 146 0,.int 4 0,.ref 271,.int 149 0,.int 4 0,.ref 278]
def ob257:Obj:=oK #[.str "Weight" 531,.str "Weight" 532,cp 533,.int 141 0,.int 0 0,.int 0 0,.int 0 0,.int 0 0,.ref 255,.bool false,.int 181 0,.ref 256,.none,.none,.none,.none,.int 534 0,.int 141 0,cp 535]
def ob258:Obj:={ cls:=.type "frame",slots:=#[some (.ref 257),some (.ref 3),some (.ref 254),none,some (.str "sumcraft.parts" 321),none,some (.ref 0)] }
def ob261:Obj:=frS 544 ["self","form"]
def ob263:Obj:=kN "__init__" "Weight.__init__" (inCls (top 26) 0)
def ob264:Obj:=frC "__init__" "Weight.__init__" 541 143 2 3 259 true 181 546
def ob265:Obj:=kM "__init__" "Weight.__init__" (inCls (top 26) 0) "sumcraft.parts" 321 264
def ob268:Obj:=frS 552 ["self","n","k"]
def ob270:Obj:=kN "worth" "Weight.worth" (inCls (top 26) 1)
def ob271:Obj:=frC "worth" "Weight.worth" 549 146 3 3 266 true 181 555
def ob272:Obj:=kM "worth" "Weight.worth" (inCls (top 26) 1) "sumcraft.parts" 321 271
def ob275:Obj:=frS 561 ["self","i","far"]
def ob277:Obj:=kN "step" "Weight.step" (inCls (top 26) 2)
def ob278:Obj:=frC "step" "Weight.step" 558 149 3 3 273 true 181 564
def ob279:Obj:=kM "step" "Weight.step" (inCls (top 26) 2) "sumcraft.parts" 321 278
def ob280:Obj:=oT #[.str "form" 567]
def ob281 (P:Params):Obj:={ cls:=.type "dict",data:=Data.dict #[kE P "__module__" 536 (.str "sumcraft.parts" 321),kE P "__firstlineno__" 540 (.int 141 539),kE P "__init__" 548 (.ref 265),kE P "worth" 557 (.ref 272),kE P "step" 566 (.ref 279),kE P "__static_attributes__" 568 (.ref 280),kE P "__doc__" 569 (.none)] 2 }
def ob282:Obj:={ cls:=.type "type",data:=Data.cls { name := "Weight",bases:=[.ref 190],mro:=[.ref 282,.ref 190,.type "object"],ns:=281,qualname := "Weight" },slots:=#[some (.ref 252),none,some (.str "Weight" 529),some (.str "Weight" 537),some (.builtin "object.__new__"),some (.bool true)] }
def ob283:Obj:={ cls:=.type "super",data:=Data.fields #[.ref 282,.ref 282,.ref 282] }
def ob284:Obj:=oB #[.builtin "object.__init_subclass__",.ref 282]
def ob287 (P:Params):Obj:={ cls:=.type "dict",data:=Data.dict #[kE P "__module__" 579 (.str "sumcraft.parts" 321),kE P "__qualname__" 581 (.str "Power" 580),kE P "__firstlineno__" 583 (.int 151 582),kE P "__init__" 591 (.ref 298),kE P "worth" 600 (.ref 305),kE P "up" 608 (.ref 312),kE P "down" 616 (.ref 319),kE P "floor" 626 (.ref 326),kE P "__static_attributes__" 628 (.ref 327)] 9 }
def ob289:Obj:=oF #[.int 153 0,.int 4 0,.ref 297,.int 156 0,.int 4 0,.ref 304,.int 159 0,.int 4 0,.ref 311,.int 162 0,.int 4 0,.ref 318,.int 165 0,.int 4 0,.ref 325]
def ob290:Obj:=oK #[.str "Power" 574,.str "Power" 575,cp 576,.int 151 0,.int 0 0,.int 0 0,.int 0 0,.int 0 0,.ref 288,.bool false,.int 181 0,.ref 289,.none,.none,.none,.none,.int 577 0,.int 151 0,cp 578]
def ob291:Obj:={ cls:=.type "frame",slots:=#[some (.ref 290),some (.ref 3),some (.ref 287),none,some (.str "sumcraft.parts" 321),none,some (.ref 0)] }
def ob294:Obj:=frS 587 ["self","fraction"]
def ob296:Obj:=kN "__init__" "Power.__init__" (inCls (top 27) 0)
def ob297:Obj:=frC "__init__" "Power.__init__" 584 153 2 3 292 true 181 589
def ob298:Obj:=kM "__init__" "Power.__init__" (inCls (top 27) 0) "sumcraft.parts" 321 297
def ob301:Obj:=frS 595 ["self","n","k"]
def ob303:Obj:=kN "worth" "Power.worth" (inCls (top 27) 1)
def ob304:Obj:=frC "worth" "Power.worth" 592 156 3 3 299 true 181 598
def ob305:Obj:=kM "worth" "Power.worth" (inCls (top 27) 1) "sumcraft.parts" 321 304
def ob308:Obj:=frS 604 ["self","far"]
def ob310:Obj:=kN "up" "Power.up" (inCls (top 27) 2)
def ob311:Obj:=frC "up" "Power.up" 601 159 2 3 306 true 181 606
def ob312:Obj:=kM "up" "Power.up" (inCls (top 27) 2) "sumcraft.parts" 321 311
def ob315:Obj:=frS 612 ["self","far"]
def ob317:Obj:=kN "down" "Power.down" (inCls (top 27) 3)
def ob318:Obj:=frC "down" "Power.down" 609 162 2 3 313 true 181 614
def ob319:Obj:=kM "down" "Power.down" (inCls (top 27) 3) "sumcraft.parts" 321 318
def ob322:Obj:=frS 620 ["self","n","k","far"]
def ob324:Obj:=kN "floor" "Power.floor" (inCls (top 27) 4)
def ob325:Obj:=frC "floor" "Power.floor" 617 165 4 3 320 true 181 624
def ob326:Obj:=kM "floor" "Power.floor" (inCls (top 27) 4) "sumcraft.parts" 321 325
def ob327:Obj:=oT #[.str "fraction" 627]
def ob328 (P:Params):Obj:={ cls:=.type "dict",data:=Data.dict #[kE P "__module__" 579 (.str "sumcraft.parts" 321),kE P "__firstlineno__" 583 (.int 151 582),kE P "__init__" 591 (.ref 298),kE P "worth" 600 (.ref 305),kE P "up" 608 (.ref 312),kE P "down" 616 (.ref 319),kE P "floor" 626 (.ref 326),kE P "__static_attributes__" 628 (.ref 327),kE P "__doc__" 629 (.none)] 2 }
def ob329:Obj:={ cls:=.type "type",data:=Data.cls { name := "Power",bases:=[.ref 190],mro:=[.ref 329,.ref 190,.type "object"],ns:=328,qualname := "Power" },slots:=#[some (.ref 285),none,some (.str "Power" 572),some (.str "Power" 580),some (.builtin "object.__new__"),some (.bool true)] }
def ob330:Obj:={ cls:=.type "super",data:=Data.fields #[.ref 329,.ref 329,.ref 329] }
def ob331:Obj:=oB #[.builtin "object.__init_subclass__",.ref 329]
def ob334 (P:Params):Obj:={ cls:=.type "dict",data:=Data.dict #[kE P "__module__" 639 (.str "sumcraft.parts" 321),kE P "__qualname__" 641 (.str "Growth" 640),kE P "__firstlineno__" 643 (.int 167 642),kE P "__init__" 651 (.ref 345),kE P "worth" 660 (.ref 352),kE P "step" 669 (.ref 359),kE P "floor" 679 (.ref 366),kE P "__static_attributes__" 681 (.ref 367)] 8 }
def ob336:Obj:=oF #[.int 169 0,.int 4 0,.ref 344,.int 172 0,.int 4 0,.ref 351,.int 175 0,.int 4 0,.ref 358,.int 178 0,.int 4 0,.ref 365]
def ob337:Obj:=oK #[.str "Growth" 634,.str "Growth" 635,cp 636,.int 167 0,.int 0 0,.int 0 0,.int 0 0,.int 0 0,.ref 335,.bool false,.int 181 0,.ref 336,.none,.none,.none,.none,.int 637 0,.int 167 0,cp 638]
def ob338:Obj:={ cls:=.type "frame",slots:=#[some (.ref 337),some (.ref 3),some (.ref 334),none,some (.str "sumcraft.parts" 321),none,some (.ref 0)] }
def ob341:Obj:=frS 647 ["self","fraction"]
def ob343:Obj:=kN "__init__" "Growth.__init__" (inCls (top 28) 0)
def ob344:Obj:=frC "__init__" "Growth.__init__" 644 169 2 3 339 true 181 649
def ob345:Obj:=kM "__init__" "Growth.__init__" (inCls (top 28) 0) "sumcraft.parts" 321 344
def ob348:Obj:=frS 655 ["self","n","k"]
def ob350:Obj:=kN "worth" "Growth.worth" (inCls (top 28) 1)
def ob351:Obj:=frC "worth" "Growth.worth" 652 172 3 3 346 true 181 658
def ob352:Obj:=kM "worth" "Growth.worth" (inCls (top 28) 1) "sumcraft.parts" 321 351
def ob355:Obj:=frS 664 ["self","i","far"]
def ob357:Obj:=kN "step" "Growth.step" (inCls (top 28) 2)
def ob358:Obj:=frC "step" "Growth.step" 661 175 3 3 353 true 181 667
def ob359:Obj:=kM "step" "Growth.step" (inCls (top 28) 2) "sumcraft.parts" 321 358
def ob362:Obj:=frS 673 ["self","n","k","far"]
def ob364:Obj:=kN "floor" "Growth.floor" (inCls (top 28) 3)
def ob365:Obj:=frC "floor" "Growth.floor" 670 178 4 3 360 true 181 677
def ob366:Obj:=kM "floor" "Growth.floor" (inCls (top 28) 3) "sumcraft.parts" 321 365
def ob367:Obj:=oT #[.str "fraction" 680]
def ob368 (P:Params):Obj:={ cls:=.type "dict",data:=Data.dict #[kE P "__module__" 639 (.str "sumcraft.parts" 321),kE P "__firstlineno__" 643 (.int 167 642),kE P "__init__" 651 (.ref 345),kE P "worth" 660 (.ref 352),kE P "step" 669 (.ref 359),kE P "floor" 679 (.ref 366),kE P "__static_attributes__" 681 (.ref 367),kE P "__doc__" 682 (.none)] 2 }
def ob369:Obj:={ cls:=.type "type",data:=Data.cls { name := "Growth",bases:=[.ref 190],mro:=[.ref 369,.ref 190,.type "object"],ns:=368,qualname := "Growth" },slots:=#[some (.ref 332),none,some (.str "Growth" 632),some (.str "Growth" 640),some (.builtin "object.__new__"),some (.bool true)] }
def ob370:Obj:={ cls:=.type "super",data:=Data.fields #[.ref 369,.ref 369,.ref 369] }
def ob371:Obj:=oB #[.builtin "object.__init_subclass__",.ref 369]
noncomputable def frM2 (P:Params):List DictEntry:=frM1 P++[kE P "MOST_PARTS" 688 (.int 6 687),kE P "UPPER_LEAST" 692 (.ref 372),kE P "LOWER_LEAST" 699 (.ref 373),kE P "GREATEST" 703 (.ref 374),kE P "within" 709 (.ref 379),kE P "check_choose" 718 (.ref 386),kE P "check_base" 725 (.ref 393),kE P "piece_of" 732 (.ref 400),kE P "product" 744 (.ref 407),kE P "Term" 797 (.ref 444),kE P "FIGURES" 801 (.str "0123456789" 800),kE P "MOST_FIGURES" 803 (.int 60 802),kE P "BETWEEN_PARTS" 805 (.str " * " 804),kE P "BETWEEN_FORMS" 807 (.str ", " 806),kE P "LETTERS" 811 (.ref 449),kE P "show_ratio" 818 (.ref 456),kE P "show_counted" 826 (.ref 463),kE P "show_form" 837 (.ref 470),kE P "show_part" 845 (.ref 477),kE P "show_term" 851 (.ref 482),kE P "read_whole" 857 (.ref 487),kE P "read_ratio" 868 (.ref 494),kE P "read_counted" 876 (.ref 501),kE P "read_form" 888 (.ref 508),kE P "read_choose" 894 (.ref 513),kE P "read_part" 902 (.ref 520),kE P "read_term" 908 (.ref 525),kE P "_law_cell_at" 918 (.ref 532),kE P "_law_number" 926 (.ref 539),kE P "_law_divisor" 935 (.ref 546),kE P "_law_mixed" 945 (.ref 553),kE P "_law_forms" 956 (.ref 560),kE P "_law_ratio" 968 (.ref 567),kE P "_law_part" 974 (.ref 572),kE P "_law_parts" 980 (.ref 577)]
noncomputable def ob3'' (P:Params):Obj:=frD (kE P "__name__" 165 (.str "law_sumcraft_k57_terms_written_and_read" 909)) (frM2 P) 69
def ob12''':Obj:=frL [(2,20),(4,33),(6,45),(11,57),(27,64),(39,71),(47,76),(49,83),(56,90),(58,97),(65,104),(67,111),(69,116),(71,123),(73,130),(78,137),(86,144),(89,151),(105,200),(141,257),(151,290),(167,337),(185,378),(187,385),(193,392),(196,399),(209,406),(218,413),(246,455),(250,462),(254,469),(261,476),(268,481),(270,486),(278,493),(286,500),(292,507),(304,512),(309,519),(320,524),(326,531),(330,538),(336,545),(344,552),(353,559),(364,566),(372,571),(381,576)]
def ob372:Obj:=oT #[.int 0 689,.int 0 690,.int 0 691]
def ob373:Obj:=oT #[.int (-3) 694,.int (-3) 696,.int (-9) 698]
def ob374:Obj:=oT #[.int 3 700,.int 3 701,.int 9 702]
def ob377:Obj:=kN "within" "within" (top 34)
def ob378:Obj:=oK #[.str "within" 704,.str "within" 705,cp 706,.int 185 0,.int 2 0,.int 0 0,.int 0 0,.int 3 0,.ref 375,.bool true,.int 181 0,.ref 376,.none,.none,.none,.ref 377,.int 707 0,.int 185 0,cp 708]
def ob379:Obj:=kM "within" "within" (top 34) "sumcraft.terms" 685 378
def ob382:Obj:=frS 713 ["upper","lower","low"]
def ob384:Obj:=kN "check_choose" "check_choose" (top 35)
def ob385:Obj:=frC "check_choose" "check_choose" 710 187 2 3 380 true 181 716
def ob386:Obj:=kM "check_choose" "check_choose" (top 35) "sumcraft.terms" 685 385
def ob389:Obj:=oT #[.str "fraction" 722]
def ob391:Obj:=kN "check_base" "check_base" (top 36)
def ob392:Obj:=frC "check_base" "check_base" 719 193 1 3 387 true 181 723
def ob393:Obj:=kM "check_base" "check_base" (top 36) "sumcraft.terms" 685 392
def ob396:Obj:=oT #[.str "part" 729]
def ob398:Obj:=kN "piece_of" "piece_of" (top 37)
def ob399:Obj:=frC "piece_of" "piece_of" 726 196 1 3 394 true 181 730
def ob400:Obj:=kM "piece_of" "piece_of" (top 37) "sumcraft.terms" 685 399
def ob403:Obj:=frS 736 ["fractions","top","bottom","fraction","left","right"]
def ob405:Obj:=kN "product" "product" (top 38)
def ob406:Obj:=frC "product" "product" 733 209 1 3 401 true 181 742
def ob407:Obj:=kM "product" "product" (top 38) "sumcraft.terms" 685 406
def ob410 (P:Params):Obj:={ cls:=.type "dict",data:=Data.dict #[kE P "__module__" 752 (.str "sumcraft.terms" 685),kE P "__qualname__" 754 (.str "Term" 753),kE P "__firstlineno__" 756 (.int 218 755),kE P "__init__" 762 (.ref 419),kE P "told" 769 (.ref 426),kE P "worth" 775 (.ref 431),kE P "floor" 781 (.ref 436),kE P "frame" 787 (.ref 441),kE P "__static_attributes__" 790 (.ref 442)] 9 }
def ob412:Obj:=oF #[.int 220 0,.int 4 0,.ref 418,.int 226 0,.int 4 0,.ref 425,.int 229 0,.int 4 0,.ref 430,.int 232 0,.int 4 0,.ref 435,.int 235 0,.int 4 0,.ref 440]
def ob413:Obj:=oK #[.str "Term" 747,.str "Term" 748,cp 749,.int 218 0,.int 0 0,.int 0 0,.int 0 0,.int 0 0,.ref 411,.bool false,.int 181 0,.ref 412,.none,.none,.none,.none,.int 750 0,.int 218 0,cp 751]
def ob414:Obj:={ cls:=.type "frame",slots:=#[some (.ref 413),some (.ref 3),some (.ref 410),none,some (.str "sumcraft.terms" 685),none,some (.ref 0)] }
def ob417:Obj:=kN "__init__" "Term.__init__" (inCls (top 39) 0)
def ob418:Obj:=oK #[.str "__init__" 757,.str "Term.__init__" 758,cp 759,.int 220 0,.int 2 0,.int 0 0,.int 0 0,.int 3 0,.ref 415,.bool true,.int 181 0,.ref 416,.none,.none,.none,.ref 417,.int 760 0,.int 220 0,cp 761]
def ob419:Obj:=kM "__init__" "Term.__init__" (inCls (top 39) 0) "sumcraft.terms" 685 418
def ob422:Obj:=oT #[.str "self" 766]
def ob424:Obj:=kN "told" "Term.told" (inCls (top 39) 1)
def ob425:Obj:=frC "told" "Term.told" 763 226 1 3 420 true 181 767
def ob426:Obj:=kM "told" "Term.told" (inCls (top 39) 1) "sumcraft.terms" 685 425
def ob429:Obj:=kN "worth" "Term.worth" (inCls (top 39) 2)
def ob430:Obj:=oK #[.str "worth" 770,.str "Term.worth" 771,cp 772,.int 229 0,.int 3 0,.int 0 0,.int 0 0,.int 3 0,.ref 427,.bool true,.int 181 0,.ref 428,.none,.none,.none,.ref 429,.int 773 0,.int 229 0,cp 774]
def ob431:Obj:=kM "worth" "Term.worth" (inCls (top 39) 2) "sumcraft.terms" 685 430
def ob434:Obj:=kN "floor" "Term.floor" (inCls (top 39) 3)
def ob435:Obj:=oK #[.str "floor" 776,.str "Term.floor" 777,cp 778,.int 232 0,.int 4 0,.int 0 0,.int 0 0,.int 3 0,.ref 432,.bool true,.int 181 0,.ref 433,.none,.none,.none,.ref 434,.int 779 0,.int 232 0,cp 780]
def ob436:Obj:=kM "floor" "Term.floor" (inCls (top 39) 3) "sumcraft.terms" 685 435
def ob439:Obj:=kN "frame" "Term.frame" (inCls (top 39) 4)
def ob440:Obj:=oK #[.str "frame" 782,.str "Term.frame" 783,cp 784,.int 235 0,.int 2 0,.int 0 0,.int 0 0,.int 3 0,.ref 437,.bool true,.int 181 0,.ref 438,.none,.none,.none,.ref 439,.int 785 0,.int 235 0,cp 786]
def ob441:Obj:=kM "frame" "Term.frame" (inCls (top 39) 4) "sumcraft.terms" 685 440
def ob442:Obj:=frS 788 ["parts","pieces"]
def ob443 (P:Params):Obj:={ cls:=.type "dict",data:=Data.dict #[kE P "__module__" 752 (.str "sumcraft.terms" 685),kE P "__firstlineno__" 756 (.int 218 755),kE P "__init__" 762 (.ref 419),kE P "told" 769 (.ref 426),kE P "worth" 775 (.ref 431),kE P "floor" 781 (.ref 436),kE P "frame" 787 (.ref 441),kE P "__static_attributes__" 790 (.ref 442),kE P "__dict__" 792 (.ref 445),kE P "__weakref__" 794 (.ref 446),kE P "__doc__" 795 (.none)] 4 }
def ob444:Obj:={ cls:=.type "type",data:=Data.cls { name := "Term",bases:=[.type "object"],mro:=[.ref 444,.type "object"],ns:=443,qualname := "Term" },slots:=#[none,none,some (.str "Term" 745),some (.str "Term" 753),some (.builtin "object.__new__"),some (.bool true)] }
def ob445:Obj:={ cls:=.type "getset_descriptor",data:=Data.fields #[.str "__dict__" 791,.ref 444,.builtin "function.__dict__",.builtin "function.__dict__#set"] }
def ob446:Obj:={ cls:=.type "getset_descriptor",data:=Data.fields #[.str "__weakref__" 793,.ref 444,.builtin "ExceptionGroup.__weakref__",.none] }
def ob447:Obj:={ cls:=.type "super",data:=Data.fields #[.ref 444,.ref 444,.ref 444] }
def ob448:Obj:=oB #[.builtin "object.__init_subclass__",.ref 444]
def ob449:Obj:=frS 808 ["n","k",""]
def ob452:Obj:=oT #[.str "fraction" 815]
def ob454:Obj:=kN "show_ratio" "show_ratio" (top 46)
def ob455:Obj:=frC "show_ratio" "show_ratio" 812 246 1 3 450 true 181 816
def ob456:Obj:=kM "show_ratio" "show_ratio" (top 46) "sumcraft.texts" 798 455
def ob459:Obj:=frS 822 ["number","letter"]
def ob461:Obj:=kN "show_counted" "show_counted" (top 47)
def ob462:Obj:=frC "show_counted" "show_counted" 819 250 2 3 457 true 181 824
def ob463:Obj:=kM "show_counted" "show_counted" (top 47) "sumcraft.texts" 798 462
def ob466:Obj:=frS 830 ["form","answer","number","letter","sign"]
def ob468:Obj:=kN "show_form" "show_form" (top 48)
def ob469:Obj:=frC "show_form" "show_form" 827 254 1 3 464 true 181 835
def ob470:Obj:=kM "show_form" "show_form" (top 48) "sumcraft.texts" 798 469
def ob473:Obj:=frS 841 ["part","letter"]
def ob475:Obj:=kN "show_part" "show_part" (top 49)
def ob476:Obj:=frC "show_part" "show_part" 838 261 1 3 471 true 181 843
def ob477:Obj:=kM "show_part" "show_part" (top 49) "sumcraft.texts" 798 476
def ob480:Obj:=kN "show_term" "show_term" (top 50)
def ob481:Obj:=oK #[.str "show_term" 846,.str "show_term" 847,cp 848,.int 268 0,.int 1 0,.int 0 0,.int 0 0,.int 3 0,.ref 478,.bool true,.int 181 0,.ref 479,.none,.none,.none,.ref 480,.int 849 0,.int 268 0,cp 850]
def ob482:Obj:=kM "show_term" "show_term" (top 50) "sumcraft.texts" 798 481
def ob485:Obj:=kN "read_whole" "read_whole" (top 51)
def ob486:Obj:=oK #[.str "read_whole" 852,.str "read_whole" 853,cp 854,.int 270 0,.int 1 0,.int 0 0,.int 0 0,.int 3 0,.ref 483,.bool true,.int 181 0,.ref 484,.none,.none,.none,.ref 485,.int 855 0,.int 270 0,cp 856]
def ob487:Obj:=kM "read_whole" "read_whole" (top 51) "sumcraft.texts" 798 486
def ob490:Obj:=frS 861 ["text","halves","top","bottom","fraction"]
def ob492:Obj:=kN "read_ratio" "read_ratio" (top 52)
def ob493:Obj:=frC "read_ratio" "read_ratio" 858 278 1 3 488 true 181 866
def ob494:Obj:=kM "read_ratio" "read_ratio" (top 52) "sumcraft.texts" 798 493
def ob497:Obj:=frS 872 ["text","letter"]
def ob499:Obj:=kN "read_counted" "read_counted" (top 53)
def ob500:Obj:=frC "read_counted" "read_counted" 869 286 2 3 495 true 181 874
def ob501:Obj:=kM "read_counted" "read_counted" (top 53) "sumcraft.texts" 798 500
def ob504:Obj:=frS 880 ["text","numbers","piece","letter","number","form"]
def ob506:Obj:=kN "read_form" "read_form" (top 54)
def ob507:Obj:=frC "read_form" "read_form" 877 292 1 3 502 true 181 886
def ob508:Obj:=kM "read_form" "read_form" (top 54) "sumcraft.texts" 798 507
def ob511:Obj:=kN "read_choose" "read_choose" (top 55)
def ob512:Obj:=oK #[.str "read_choose" 889,.str "read_choose" 890,cp 891,.int 304 0,.int 1 0,.int 0 0,.int 0 0,.int 3 0,.ref 509,.bool true,.int 181 0,.ref 510,.none,.none,.none,.ref 511,.int 892 0,.int 304 0,cp 893]
def ob513:Obj:=kM "read_choose" "read_choose" (top 55) "sumcraft.texts" 798 512
def ob516:Obj:=frS 898 ["text","part"]
def ob518:Obj:=kN "read_part" "read_part" (top 56)
def ob519:Obj:=frC "read_part" "read_part" 895 309 1 3 514 true 181 900
def ob520:Obj:=kM "read_part" "read_part" (top 56) "sumcraft.texts" 798 519
def ob523:Obj:=kN "read_term" "read_term" (top 57)
def ob524:Obj:=oK #[.str "read_term" 903,.str "read_term" 904,cp 905,.int 320 0,.int 1 0,.int 0 0,.int 0 0,.int 3 0,.ref 521,.bool true,.int 181 0,.ref 522,.none,.none,.none,.ref 523,.int 906 0,.int 320 0,cp 907]
def ob525:Obj:=kM "read_term" "read_term" (top 57) "sumcraft.texts" 798 524
def ob528:Obj:=frS 914 ["_law_script","_law_k"]
def ob530:Obj:=kN "_law_cell_at" "_law_cell_at" (top 59)
def ob531:Obj:=frC "_law_cell_at" "_law_cell_at" 911 326 2 3 526 true 181 916
def ob532:Obj:=kM "_law_cell_at" "_law_cell_at" (top 59) "law_sumcraft_k57_terms_written_and_read" 909 531
def ob535:Obj:=frS 922 ["_law_cell","_law_most"]
def ob537:Obj:=kN "_law_number" "_law_number" (top 60)
def ob538:Obj:=frC "_law_number" "_law_number" 919 330 2 3 533 true 181 924
def ob539:Obj:=kM "_law_number" "_law_number" (top 60) "law_sumcraft_k57_terms_written_and_read" 909 538
def ob542:Obj:=frS 930 ["_law_one","_law_other","_law_rest"]
def ob544:Obj:=kN "_law_divisor" "_law_divisor" (top 61)
def ob545:Obj:=frC "_law_divisor" "_law_divisor" 927 336 2 3 540 true 181 933
def ob546:Obj:=kM "_law_divisor" "_law_divisor" (top 61) "law_sumcraft_k57_terms_written_and_read" 909 545
def ob549:Obj:=frS 939 ["_law_cell","_law_k","_law_number_here","_law_time"]
def ob551:Obj:=kN "_law_mixed" "_law_mixed" (top 62)
def ob552:Obj:=frC "_law_mixed" "_law_mixed" 936 344 2 3 547 true 181 943
def ob553:Obj:=kM "_law_mixed" "_law_mixed" (top 62) "law_sumcraft_k57_terms_written_and_read" 909 552
def ob556:Obj:=frS 949 ["_law_one","_law_other","_law_most","_law_high","_law_low"]
def ob558:Obj:=kN "_law_forms" "_law_forms" (top 63)
def ob559:Obj:=frC "_law_forms" "_law_forms" 946 353 3 3 554 true 181 954
def ob560:Obj:=kM "_law_forms" "_law_forms" (top 63) "law_sumcraft_k57_terms_written_and_read" 909 559
def ob563:Obj:=frS 960 ["_law_one","_law_other","_law_top","_law_number_here","_law_bottom","_law_by"]
def ob565:Obj:=kN "_law_ratio" "_law_ratio" (top 64)
def ob566:Obj:=frC "_law_ratio" "_law_ratio" 957 364 2 3 561 true 181 966
def ob567:Obj:=kM "_law_ratio" "_law_ratio" (top 64) "law_sumcraft_k57_terms_written_and_read" 909 566
def ob570:Obj:=kN "_law_part" "_law_part" (top 65)
def ob571:Obj:=oK #[.str "_law_part" 969,.str "_law_part" 970,cp 971,.int 372 0,.int 2 0,.int 0 0,.int 0 0,.int 3 0,.ref 568,.bool true,.int 181 0,.ref 569,.none,.none,.none,.ref 570,.int 972 0,.int 372 0,cp 973]
def ob572:Obj:=kM "_law_part" "_law_part" (top 65) "law_sumcraft_k57_terms_written_and_read" 909 571
def ob575:Obj:=kN "_law_parts" "_law_parts" (top 66)
def ob576:Obj:=oK #[.str "_law_parts" 975,.str "_law_parts" 976,cp 977,.int 381 0,.int 2 0,.int 0 0,.int 0 0,.int 3 0,.ref 573,.bool true,.int 181 0,.ref 574,.none,.none,.none,.ref 575,.int 978 0,.int 381 0,cp 979]
def ob577:Obj:=kM "_law_parts" "_law_parts" (top 66) "law_sumcraft_k57_terms_written_and_read" 909 576
noncomputable def frM3 (P:Params):List DictEntry:=frM2 P++[kE P "_law_form_text" 990 (.ref 584),kE P "_law_ratio_text" 996 (.ref 589),kE P "_law_part_text" 1003 (.ref 596),kE P "_law_read" 1013 (.ref 603),kE P "_law_refused" 1021 (.ref 610),kE P "_law_small" 1035 (.ref 617),kE P "law" 1041 (.ref 622)]
noncomputable def ob3''' (P:Params):Obj:=frD (kE P "__name__" 165 (.str "law_sumcraft_k57_terms_written_and_read" 909)) (frM3 P) 76
def ob12'''':Obj:=frL [(2,20),(4,33),(6,45),(11,57),(27,64),(39,71),(47,76),(49,83),(56,90),(58,97),(65,104),(67,111),(69,116),(71,123),(73,130),(78,137),(86,144),(89,151),(105,200),(141,257),(151,290),(167,337),(185,378),(187,385),(193,392),(196,399),(209,406),(218,413),(246,455),(250,462),(254,469),(261,476),(268,481),(270,486),(278,493),(286,500),(292,507),(304,512),(309,519),(320,524),(326,531),(330,538),(336,545),(344,552),(353,559),(364,566),(372,571),(381,576),(389,583),(402,588),(404,595),(410,602),(419,609),(426,616),(437,621)]
def ob580:Obj:=frS 984 ["_law_form","_law_words","_law_k","_law_word"]
def ob582:Obj:=kN "_law_form_text" "_law_form_text" (top 67)
def ob583:Obj:=frC "_law_form_text" "_law_form_text" 981 389 1 3 578 true 181 988
def ob584:Obj:=kM "_law_form_text" "_law_form_text" (top 67) "law_sumcraft_k57_terms_written_and_read" 909 583
def ob587:Obj:=kN "_law_ratio_text" "_law_ratio_text" (top 68)
def ob588:Obj:=oK #[.str "_law_ratio_text" 991,.str "_law_ratio_text" 992,cp 993,.int 402 0,.int 1 0,.int 0 0,.int 0 0,.int 3 0,.ref 585,.bool true,.int 181 0,.ref 586,.none,.none,.none,.ref 587,.int 994 0,.int 402 0,cp 995]
def ob589:Obj:=kM "_law_ratio_text" "_law_ratio_text" (top 68) "law_sumcraft_k57_terms_written_and_read" 909 588
def ob592:Obj:=oT #[.str "_law_part_here" 1000]
def ob594:Obj:=kN "_law_part_text" "_law_part_text" (top 69)
def ob595:Obj:=frC "_law_part_text" "_law_part_text" 997 404 1 3 590 true 181 1001
def ob596:Obj:=kM "_law_part_text" "_law_part_text" (top 69) "law_sumcraft_k57_terms_written_and_read" 909 595
def ob599:Obj:=frS 1007 ["_law_line","_law_parts_here","_law_found","_law_told"]
def ob601:Obj:=kN "_law_read" "_law_read" (top 70)
def ob602:Obj:=frC "_law_read" "_law_read" 1004 410 2 3 597 true 181 1011
def ob603:Obj:=kM "_law_read" "_law_read" (top 70) "law_sumcraft_k57_terms_written_and_read" 909 602
def ob606:Obj:=frS 1017 ["_law_line","_law_refused_here"]
def ob608:Obj:=kN "_law_refused" "_law_refused" (top 71)
def ob609:Obj:=frC "_law_refused" "_law_refused" 1014 419 1 3 604 true 181 1019
def ob610:Obj:=kM "_law_refused" "_law_refused" (top 71) "law_sumcraft_k57_terms_written_and_read" 909 609
def ob613:Obj:=frS 1025 ["_law_one","_law_other","_law_a","_law_b","_law_form","_law_line","_law_by","_law_fraction"]
def ob615:Obj:=kN "_law_small" "_law_small" (top 72)
def ob616:Obj:=frC "_law_small" "_law_small" 1022 426 2 3 611 true 181 1033
def ob617:Obj:=kM "_law_small" "_law_small" (top 72) "law_sumcraft_k57_terms_written_and_read" 909 616
def ob620:Obj:=kN "law" "law" (top 73)
def ob621:Obj:=oK #[.str "law" 1036,.str "law" 1037,cp 1038,.int 437 0,.int 1 0,.int 0 0,.int 0 0,.int 3 0,.ref 618,.bool true,.int 181 0,.ref 619,.none,.none,.none,.ref 620,.int 1039 0,.int 437 0,cp 1040]
def ob622:Obj:=kM "law" "law" (top 73) "law_sumcraft_k57_terms_written_and_read" 909 621
def env0:Env:={ scope:=PySem.Challenge.pw_sumcraft_k57_terms_written_and_read.main.scope,locals:=mainNs,globals:=mainNs,cells:=[],code:=.ref 13,frame:=some 14 }
def cd0:Code:=.body (behindTheImports PySem.Challenge.pw_sumcraft_k57_terms_written_and_read) env0
def fr0:List Frame:=[topFrame { line:=0,col:=0,endLine:=0,endCol:=0 }]
noncomputable def hp1 (P:Params):Heap:=⟨⟨[boot_o_0 P,boot_o_1 P,boot_o_2 P,boot_o_3 P,boot_o_4 P,boot_o_5 P,boot_o_6 P,boot_o_7 P,boot_o_8 P,boot_o_9 P,boot_o_10 P,ob11,ob12,ob13,ob14]⟩,{}⟩
noncomputable def hp3 (P:Params):Heap:=⟨⟨[boot_o_0 P,boot_o_1 P,boot_o_2 P,ob3 P,boot_o_4 P,boot_o_5 P,boot_o_6 P,boot_o_7 P,boot_o_8 P,boot_o_9 P,boot_o_10 P,ob11,ob12',ob13,ob14,ob15,ob16,ob17 P,ob11,ob12,ob20,ob21,ob11,ob23 P,ob24,ob25,ob26,ob27,ob28,ob16,ob30 P,ob11,ob12,ob33,ob34,ob11,ob36 P,ob37,ob38,ob39,ob28,ob16,ob42 P,ob11,ob12,ob45,ob46,ob11,ob48 P,ob49,ob50,ob51,ob11,ob12,ob54,ob11,ob56,ob57,ob58,ob11,ob12,ob61,ob11,ob63,ob64,ob65,ob11,ob12,ob68,ob11,ob70,ob71,ob72,ob11,ob12,ob75,ob76,ob77,ob11,ob12,ob80,ob11,ob82,ob83,ob84,ob11,ob12,ob87,ob11,ob89,ob90,ob91,ob11,ob12,ob94,ob11,ob96,ob97,ob98,ob11,ob12,ob101,ob11,ob103,ob104,ob105,ob11,ob12,ob108,ob11,ob110,ob111,ob112,ob11,ob12,ob115,ob116,ob117,ob11,ob12,ob120,ob11,ob122,ob123,ob124,ob11,ob12,ob127,ob11,ob129,ob130,ob131,ob11,ob12,ob134,ob11,ob136,ob137,ob138,ob11,ob12,ob141,ob11,ob143,ob144,ob145,ob11,ob16,ob148 P,ob11,ob150,ob151,ob152,ob11,ob12,ob155,ob11,ob157,ob158,ob159,ob11,ob12,ob162,ob11,ob164,ob165,ob166,ob11,ob12,ob169,ob11,ob171,ob172,ob173,ob11,ob12,ob176,ob11,ob178,ob179,ob180,ob11,ob12,ob183,ob11,ob185,ob186,ob187,ob11,ob189 P,ob190,ob191,ob192,ob193,ob194]⟩,{}⟩
noncomputable def hp4 (P:Params):Heap:=⟨⟨[boot_o_0 P,boot_o_1 P,boot_o_2 P,ob3' P,boot_o_4 P,boot_o_5 P,boot_o_6 P,boot_o_7 P,boot_o_8 P,boot_o_9 P,boot_o_10 P,ob11,ob12'',ob13,ob14,ob15,ob16,ob17 P,ob11,ob12,ob20,ob21,ob11,ob23 P,ob24,ob25,ob26,ob27,ob28,ob16,ob30 P,ob11,ob12,ob33,ob34,ob11,ob36 P,ob37,ob38,ob39,ob28,ob16,ob42 P,ob11,ob12,ob45,ob46,ob11,ob48 P,ob49,ob50,ob51,ob11,ob12,ob54,ob11,ob56,ob57,ob58,ob11,ob12,ob61,ob11,ob63,ob64,ob65,ob11,ob12,ob68,ob11,ob70,ob71,ob72,ob11,ob12,ob75,ob76,ob77,ob11,ob12,ob80,ob11,ob82,ob83,ob84,ob11,ob12,ob87,ob11,ob89,ob90,ob91,ob11,ob12,ob94,ob11,ob96,ob97,ob98,ob11,ob12,ob101,ob11,ob103,ob104,ob105,ob11,ob12,ob108,ob11,ob110,ob111,ob112,ob11,ob12,ob115,ob116,ob117,ob11,ob12,ob120,ob11,ob122,ob123,ob124,ob11,ob12,ob127,ob11,ob129,ob130,ob131,ob11,ob12,ob134,ob11,ob136,ob137,ob138,ob11,ob12,ob141,ob11,ob143,ob144,ob145,ob11,ob16,ob148 P,ob11,ob150,ob151,ob152,ob11,ob12,ob155,ob11,ob157,ob158,ob159,ob11,ob12,ob162,ob11,ob164,ob165,ob166,ob11,ob12,ob169,ob11,ob171,ob172,ob173,ob11,ob12,ob176,ob11,ob178,ob179,ob180,ob11,ob12,ob183,ob11,ob185,ob186,ob187,ob11,ob189 P,ob190',ob191,ob192,ob193,ob194,ob195,ob16,ob197 P,ob11,ob199,ob200,ob201,ob11,ob12,ob204,ob11,ob206,ob207,ob208,ob11,ob12,ob211,ob212,ob213,ob11,ob12,ob216,ob11,ob218,ob219,ob220,ob11,ob12,ob223,ob11,ob225,ob226,ob227,ob11,ob12,ob230,ob11,ob232,ob233,ob234,ob11,ob12,ob237,ob11,ob239,ob240,ob241,ob11,ob12,ob244,ob245,ob246,ob247,ob248 P,ob249,ob250,ob251,ob195,ob16,ob254 P,ob11,ob256,ob257,ob258,ob11,ob12,ob261,ob11,ob263,ob264,ob265,ob11,ob12,ob268,ob11,ob270,ob271,ob272,ob11,ob12,ob275,ob11,ob277,ob278,ob279,ob280,ob281 P,ob282,ob283,ob284,ob195,ob16,ob287 P,ob11,ob289,ob290,ob291,ob11,ob12,ob294,ob11,ob296,ob297,ob298,ob11,ob12,ob301,ob11,ob303,ob304,ob305,ob11,ob12,ob308,ob11,ob310,ob311,ob312,ob11,ob12,ob315,ob11,ob317,ob318,ob319,ob11,ob12,ob322,ob11,ob324,ob325,ob326,ob327,ob328 P,ob329,ob330,ob331,ob195,ob16,ob334 P,ob11,ob336,ob337,ob338,ob11,ob12,ob341,ob11,ob343,ob344,ob345,ob11,ob12,ob348,ob11,ob350,ob351,ob352,ob11,ob12,ob355,ob11,ob357,ob358,ob359,ob11,ob12,ob362,ob11,ob364,ob365,ob366,ob367,ob368 P,ob369,ob370,ob371]⟩,{}⟩
noncomputable def hp5 (P:Params):Heap:=⟨⟨[boot_o_0 P,boot_o_1 P,boot_o_2 P,ob3'' P,boot_o_4 P,boot_o_5 P,boot_o_6 P,boot_o_7 P,boot_o_8 P,boot_o_9 P,boot_o_10 P,ob11,ob12''',ob13,ob14,ob15,ob16,ob17 P,ob11,ob12,ob20,ob21,ob11,ob23 P,ob24,ob25,ob26,ob27,ob28,ob16,ob30 P,ob11,ob12,ob33,ob34,ob11,ob36 P,ob37,ob38,ob39,ob28,ob16,ob42 P,ob11,ob12,ob45,ob46,ob11,ob48 P,ob49,ob50,ob51,ob11,ob12,ob54,ob11,ob56,ob57,ob58,ob11,ob12,ob61,ob11,ob63,ob64,ob65,ob11,ob12,ob68,ob11,ob70,ob71,ob72,ob11,ob12,ob75,ob76,ob77,ob11,ob12,ob80,ob11,ob82,ob83,ob84,ob11,ob12,ob87,ob11,ob89,ob90,ob91,ob11,ob12,ob94,ob11,ob96,ob97,ob98,ob11,ob12,ob101,ob11,ob103,ob104,ob105,ob11,ob12,ob108,ob11,ob110,ob111,ob112,ob11,ob12,ob115,ob116,ob117,ob11,ob12,ob120,ob11,ob122,ob123,ob124,ob11,ob12,ob127,ob11,ob129,ob130,ob131,ob11,ob12,ob134,ob11,ob136,ob137,ob138,ob11,ob12,ob141,ob11,ob143,ob144,ob145,ob11,ob16,ob148 P,ob11,ob150,ob151,ob152,ob11,ob12,ob155,ob11,ob157,ob158,ob159,ob11,ob12,ob162,ob11,ob164,ob165,ob166,ob11,ob12,ob169,ob11,ob171,ob172,ob173,ob11,ob12,ob176,ob11,ob178,ob179,ob180,ob11,ob12,ob183,ob11,ob185,ob186,ob187,ob11,ob189 P,ob190',ob191,ob192,ob193,ob194,ob195,ob16,ob197 P,ob11,ob199,ob200,ob201,ob11,ob12,ob204,ob11,ob206,ob207,ob208,ob11,ob12,ob211,ob212,ob213,ob11,ob12,ob216,ob11,ob218,ob219,ob220,ob11,ob12,ob223,ob11,ob225,ob226,ob227,ob11,ob12,ob230,ob11,ob232,ob233,ob234,ob11,ob12,ob237,ob11,ob239,ob240,ob241,ob11,ob12,ob244,ob245,ob246,ob247,ob248 P,ob249,ob250,ob251,ob195,ob16,ob254 P,ob11,ob256,ob257,ob258,ob11,ob12,ob261,ob11,ob263,ob264,ob265,ob11,ob12,ob268,ob11,ob270,ob271,ob272,ob11,ob12,ob275,ob11,ob277,ob278,ob279,ob280,ob281 P,ob282,ob283,ob284,ob195,ob16,ob287 P,ob11,ob289,ob290,ob291,ob11,ob12,ob294,ob11,ob296,ob297,ob298,ob11,ob12,ob301,ob11,ob303,ob304,ob305,ob11,ob12,ob308,ob11,ob310,ob311,ob312,ob11,ob12,ob315,ob11,ob317,ob318,ob319,ob11,ob12,ob322,ob11,ob324,ob325,ob326,ob327,ob328 P,ob329,ob330,ob331,ob195,ob16,ob334 P,ob11,ob336,ob337,ob338,ob11,ob12,ob341,ob11,ob343,ob344,ob345,ob11,ob12,ob348,ob11,ob350,ob351,ob352,ob11,ob12,ob355,ob11,ob357,ob358,ob359,ob11,ob12,ob362,ob11,ob364,ob365,ob366,ob367,ob368 P,ob369,ob370,ob371,ob372,ob373,ob374,ob11,ob12,ob377,ob378,ob379,ob11,ob12,ob382,ob11,ob384,ob385,ob386,ob11,ob12,ob389,ob11,ob391,ob392,ob393,ob11,ob12,ob396,ob11,ob398,ob399,ob400,ob11,ob12,ob403,ob11,ob405,ob406,ob407,ob11,ob16,ob410 P,ob11,ob412,ob413,ob414,ob11,ob12,ob417,ob418,ob419,ob11,ob12,ob422,ob11,ob424,ob425,ob426,ob11,ob12,ob429,ob430,ob431,ob11,ob12,ob434,ob435,ob436,ob11,ob12,ob439,ob440,ob441,ob442,ob443 P,ob444,ob445,ob446,ob447,ob448,ob449,ob11,ob12,ob452,ob11,ob454,ob455,ob456,ob11,ob12,ob459,ob11,ob461,ob462,ob463,ob11,ob12,ob466,ob11,ob468,ob469,ob470,ob11,ob12,ob473,ob11,ob475,ob476,ob477,ob11,ob12,ob480,ob481,ob482,ob11,ob12,ob485,ob486,ob487,ob11,ob12,ob490,ob11,ob492,ob493,ob494,ob11,ob12,ob497,ob11,ob499,ob500,ob501,ob11,ob12,ob504,ob11,ob506,ob507,ob508,ob11,ob12,ob511,ob512,ob513,ob11,ob12,ob516,ob11,ob518,ob519,ob520,ob11,ob12,ob523,ob524,ob525,ob11,ob12,ob528,ob11,ob530,ob531,ob532,ob11,ob12,ob535,ob11,ob537,ob538,ob539,ob11,ob12,ob542,ob11,ob544,ob545,ob546,ob11,ob12,ob549,ob11,ob551,ob552,ob553,ob11,ob12,ob556,ob11,ob558,ob559,ob560,ob11,ob12,ob563,ob11,ob565,ob566,ob567,ob11,ob12,ob570,ob571,ob572,ob11,ob12,ob575,ob576,ob577]⟩,{}⟩
noncomputable def hp6 (P:Params):Heap:=⟨⟨[boot_o_0 P,boot_o_1 P,boot_o_2 P,ob3''' P,boot_o_4 P,boot_o_5 P,boot_o_6 P,boot_o_7 P,boot_o_8 P,boot_o_9 P,boot_o_10 P,ob11,ob12'''',ob13,ob14,ob15,ob16,ob17 P,ob11,ob12,ob20,ob21,ob11,ob23 P,ob24,ob25,ob26,ob27,ob28,ob16,ob30 P,ob11,ob12,ob33,ob34,ob11,ob36 P,ob37,ob38,ob39,ob28,ob16,ob42 P,ob11,ob12,ob45,ob46,ob11,ob48 P,ob49,ob50,ob51,ob11,ob12,ob54,ob11,ob56,ob57,ob58,ob11,ob12,ob61,ob11,ob63,ob64,ob65,ob11,ob12,ob68,ob11,ob70,ob71,ob72,ob11,ob12,ob75,ob76,ob77,ob11,ob12,ob80,ob11,ob82,ob83,ob84,ob11,ob12,ob87,ob11,ob89,ob90,ob91,ob11,ob12,ob94,ob11,ob96,ob97,ob98,ob11,ob12,ob101,ob11,ob103,ob104,ob105,ob11,ob12,ob108,ob11,ob110,ob111,ob112,ob11,ob12,ob115,ob116,ob117,ob11,ob12,ob120,ob11,ob122,ob123,ob124,ob11,ob12,ob127,ob11,ob129,ob130,ob131,ob11,ob12,ob134,ob11,ob136,ob137,ob138,ob11,ob12,ob141,ob11,ob143,ob144,ob145,ob11,ob16,ob148 P,ob11,ob150,ob151,ob152,ob11,ob12,ob155,ob11,ob157,ob158,ob159,ob11,ob12,ob162,ob11,ob164,ob165,ob166,ob11,ob12,ob169,ob11,ob171,ob172,ob173,ob11,ob12,ob176,ob11,ob178,ob179,ob180,ob11,ob12,ob183,ob11,ob185,ob186,ob187,ob11,ob189 P,ob190',ob191,ob192,ob193,ob194,ob195,ob16,ob197 P,ob11,ob199,ob200,ob201,ob11,ob12,ob204,ob11,ob206,ob207,ob208,ob11,ob12,ob211,ob212,ob213,ob11,ob12,ob216,ob11,ob218,ob219,ob220,ob11,ob12,ob223,ob11,ob225,ob226,ob227,ob11,ob12,ob230,ob11,ob232,ob233,ob234,ob11,ob12,ob237,ob11,ob239,ob240,ob241,ob11,ob12,ob244,ob245,ob246,ob247,ob248 P,ob249,ob250,ob251,ob195,ob16,ob254 P,ob11,ob256,ob257,ob258,ob11,ob12,ob261,ob11,ob263,ob264,ob265,ob11,ob12,ob268,ob11,ob270,ob271,ob272,ob11,ob12,ob275,ob11,ob277,ob278,ob279,ob280,ob281 P,ob282,ob283,ob284,ob195,ob16,ob287 P,ob11,ob289,ob290,ob291,ob11,ob12,ob294,ob11,ob296,ob297,ob298,ob11,ob12,ob301,ob11,ob303,ob304,ob305,ob11,ob12,ob308,ob11,ob310,ob311,ob312,ob11,ob12,ob315,ob11,ob317,ob318,ob319,ob11,ob12,ob322,ob11,ob324,ob325,ob326,ob327,ob328 P,ob329,ob330,ob331,ob195,ob16,ob334 P,ob11,ob336,ob337,ob338,ob11,ob12,ob341,ob11,ob343,ob344,ob345,ob11,ob12,ob348,ob11,ob350,ob351,ob352,ob11,ob12,ob355,ob11,ob357,ob358,ob359,ob11,ob12,ob362,ob11,ob364,ob365,ob366,ob367,ob368 P,ob369,ob370,ob371,ob372,ob373,ob374,ob11,ob12,ob377,ob378,ob379,ob11,ob12,ob382,ob11,ob384,ob385,ob386,ob11,ob12,ob389,ob11,ob391,ob392,ob393,ob11,ob12,ob396,ob11,ob398,ob399,ob400,ob11,ob12,ob403,ob11,ob405,ob406,ob407,ob11,ob16,ob410 P,ob11,ob412,ob413,ob414,ob11,ob12,ob417,ob418,ob419,ob11,ob12,ob422,ob11,ob424,ob425,ob426,ob11,ob12,ob429,ob430,ob431,ob11,ob12,ob434,ob435,ob436,ob11,ob12,ob439,ob440,ob441,ob442,ob443 P,ob444,ob445,ob446,ob447,ob448,ob449,ob11,ob12,ob452,ob11,ob454,ob455,ob456,ob11,ob12,ob459,ob11,ob461,ob462,ob463,ob11,ob12,ob466,ob11,ob468,ob469,ob470,ob11,ob12,ob473,ob11,ob475,ob476,ob477,ob11,ob12,ob480,ob481,ob482,ob11,ob12,ob485,ob486,ob487,ob11,ob12,ob490,ob11,ob492,ob493,ob494,ob11,ob12,ob497,ob11,ob499,ob500,ob501,ob11,ob12,ob504,ob11,ob506,ob507,ob508,ob11,ob12,ob511,ob512,ob513,ob11,ob12,ob516,ob11,ob518,ob519,ob520,ob11,ob12,ob523,ob524,ob525,ob11,ob12,ob528,ob11,ob530,ob531,ob532,ob11,ob12,ob535,ob11,ob537,ob538,ob539,ob11,ob12,ob542,ob11,ob544,ob545,ob546,ob11,ob12,ob549,ob11,ob551,ob552,ob553,ob11,ob12,ob556,ob11,ob558,ob559,ob560,ob11,ob12,ob563,ob11,ob565,ob566,ob567,ob11,ob12,ob570,ob571,ob572,ob11,ob12,ob575,ob576,ob577,ob11,ob12,ob580,ob11,ob582,ob583,ob584,ob11,ob12,ob587,ob588,ob589,ob11,ob12,ob592,ob11,ob594,ob595,ob596,ob11,ob12,ob599,ob11,ob601,ob602,ob603,ob11,ob12,ob606,ob11,ob608,ob609,ob610,ob11,ob12,ob613,ob11,ob615,ob616,ob617,ob11,ob12,ob620,ob621,ob622]⟩,{}⟩
set_option maxHeartbeats 0 in
theorem pc_pre (w:World) (os:OsState):topGo treeTable PySem.Challenge.pw_sumcraft_k57_terms_written_and_read w 11 (some (.ref 6)) 12 (⟨boot_heap w.params,Array.mk [],boot_drawn,boot_toks,os⟩:Shared) (topStub PySem.Challenge.pw_sumcraft_k57_terms_written_and_read)=some ((⟨hp1 w.params,#[],{},187,os⟩:Shared),⟨denote treeTable cd0,cd0,{ line:=0,col:=0,endLine:=0,endCol:=0 },fr0⟩):=by kernel_rfl
set_option maxHeartbeats 0 in
theorem pc_blk (w:World) (os:OsState):segRun treeTable PySem.Challenge.pw_sumcraft_k57_terms_written_and_read w 11 (some (.ref 6)) 1 1 (⟨hp1 w.params,#[],{},187,os⟩:Shared) (blockOf (behindTheImports PySem.Challenge.pw_sumcraft_k57_terms_written_and_read) env0 cd0 { line:=0,col:=0,endLine:=0,endCol:=0 } fr0)=some (.next,(⟨hp1 w.params,#[],{},187,os⟩:Shared),cd0,{ line:=0,col:=0,endLine:=0,endCol:=0 }):=by kernel_rfl
noncomputable def gl3:List Stmt:=[top 0,top 1,top 2,top 3,top 4,top 5,top 6,top 7,top 8,top 9,top 10,top 11,top 12,top 13,top 14,top 15,top 16,top 17,top 18,top 19,top 20,top 21,top 22,top 23,top 24]
set_option maxHeartbeats 0 in
theorem pc3 (w:World) (os:OsState):segRun treeTable PySem.Challenge.pw_sumcraft_k57_terms_written_and_read w 11 (some (.ref 6)) 1 1468 (⟨hp1 w.params,#[],{},187,os⟩:Shared) (piecesOf gl3 env0 cd0 { line:=0,col:=0,endLine:=0,endCol:=0 } fr0)=some (.next,(⟨hp3 w.params,#[],{},450,os⟩:Shared),cd0,{ line:=89,col:=0,endLine:=104,endCol:=21 }):=by kernel_rfl
noncomputable def gl4:List Stmt:=[top 25,top 26,top 27,top 28]
set_option maxHeartbeats 0 in
theorem pc4 (w:World) (os:OsState):segRun treeTable PySem.Challenge.pw_sumcraft_k57_terms_written_and_read w 11 (some (.ref 6)) 1 1472 (⟨hp3 w.params,#[],{},450,os⟩:Shared) (piecesOf gl4 env0 cd0 { line:=89,col:=0,endLine:=104,endCol:=21 } fr0)=some (.next,(⟨hp4 w.params,#[],{},685,os⟩:Shared),cd0,{ line:=167,col:=0,endLine:=179,endCol:=83 }):=by kernel_rfl
noncomputable def gl5:List Stmt:=[top 29,top 30,top 31,top 32,top 33,top 34,top 35,top 36,top 37,top 38,top 39,top 40,top 41,top 42,top 43,top 44,top 45,top 46,top 47,top 48,top 49,top 50,top 51,top 52,top 53,top 54,top 55,top 56,top 57,top 58,top 59,top 60,top 61,top 62,top 63,top 64,top 65,top 66]
set_option maxHeartbeats 0 in
theorem pc5 (w:World) (os:OsState):segRun treeTable PySem.Challenge.pw_sumcraft_k57_terms_written_and_read w 11 (some (.ref 6)) 1 1218 (⟨hp4 w.params,#[],{},685,os⟩:Shared) (piecesOf gl5 env0 cd0 { line:=167,col:=0,endLine:=179,endCol:=83 } fr0)=some (.next,(⟨hp5 w.params,#[],{},981,os⟩:Shared),cd0,{ line:=381,col:=0,endLine:=388,endCol:=21 }):=by kernel_rfl
noncomputable def gl6:List Stmt:=[top 67,top 68,top 69,top 70,top 71,top 72,top 73]
set_option maxHeartbeats 0 in
theorem pc6 (w:World) (os:OsState):segRun treeTable PySem.Challenge.pw_sumcraft_k57_terms_written_and_read w 11 (some (.ref 6)) 1 212 (⟨hp5 w.params,#[],{},981,os⟩:Shared) (piecesOf gl6 env0 cd0 { line:=381,col:=0,endLine:=388,endCol:=21 } fr0)=some (.next,(⟨hp6 w.params,#[],{},1042,os⟩:Shared),cd0,{ line:=437,col:=0,endLine:=452,endCol:=83 }):=by kernel_rfl
set_option maxHeartbeats 0 in
theorem pc_fin (w:World) (os:OsState):topRun treeTable PySem.Challenge.pw_sumcraft_k57_terms_written_and_read w 11 (some (.ref 6)) 2 (⟨hp6 w.params,#[],{},1042,os⟩:Shared) ⟨doneF .next,cd0,{ line:=437,col:=0,endLine:=452,endCol:=83 },fr0⟩=some (⟨hp6 w.params,#[],{},1042,os⟩:Shared):=by kernel_rfl
theorem body_is:behindTheImports PySem.Challenge.pw_sumcraft_k57_terms_written_and_read=gl3++(gl4++(gl5++(gl6++[]))):=by kernel_rfl
theorem run0 (w:World) (os:OsState):topRun treeTable PySem.Challenge.pw_sumcraft_k57_terms_written_and_read w 11 (some (.ref 6)) (12+(1+(1468+(1472+(1218+(212+2)))))) (⟨boot_heap w.params,Array.mk [],boot_drawn,boot_toks,os⟩:Shared) (topStub PySem.Challenge.pw_sumcraft_k57_terms_written_and_read)=some (⟨hp6 w.params,#[],{},1042,os⟩:Shared):=
 go_top (pc_pre w os) (piece_block (pc_blk w os) (by
  rw [body_is]
  exact piece_app (pc3 w os) (piece_app (pc4 w os) (piece_app (pc5 w os) (piece_app (pc6 w os) (piece_nil (pc_fin w os)))))))
noncomputable def KK (P:Params):Frag:=[(3,ob3''' P),(17,ob17 P),(23,ob23 P),(24,ob24),(30,ob30 P),(36,ob36 P),(37,ob37),(42,ob42 P),(48,ob48 P),(49,ob49),(64,ob64),(65,ob65),(71,ob71),(72,ob72),(123,ob123),(124,ob124),(148,ob148 P),(189,ob189 P),(190,ob190'),(197,ob197 P),(207,ob207),(208,ob208),(248,ob248 P),(249,ob249),(254,ob254 P),(264,ob264),(265,ob265),(281,ob281 P),(282,ob282),(287,ob287 P),(297,ob297),(298,ob298),(328,ob328 P),(329,ob329),(334,ob334 P),(344,ob344),(345,ob345),(368,ob368 P),(369,ob369),(372,ob372),(373,ob373),(374,ob374),(378,ob378),(379,ob379),(385,ob385),(386,ob386),(392,ob392),(393,ob393),(399,ob399),(400,ob400),(410,ob410 P),(418,ob418),(419,ob419),(425,ob425),(426,ob426),(443,ob443 P),(444,ob444),(449,ob449),(455,ob455),(456,ob456),(462,ob462),(463,ob463),(469,ob469),(470,ob470),(476,ob476),(477,ob477),(481,ob481),(482,ob482),(486,ob486),(487,ob487),(493,ob493),(494,ob494),(500,ob500),(501,ob501),(507,ob507),(508,ob508),(512,ob512),(513,ob513),(519,ob519),(520,ob520),(524,ob524),(525,ob525),(531,ob531),(532,ob532),(538,ob538),(539,ob539),(545,ob545),(546,ob546),(552,ob552),(553,ob553),(559,ob559),(560,ob560),(566,ob566),(567,ob567),(571,ob571),(572,ob572),(576,ob576),(577,ob577),(583,ob583),(584,ob584),(588,ob588),(589,ob589),(595,ob595),(596,ob596),(602,ob602),(603,ob603),(609,ob609),(610,ob610),(616,ob616),(617,ob617),(621,ob621),(622,ob622)]
noncomputable def KA:List Addr:=[3,17,23,24,30,36,37,42,48,49,64,65,71,72,123,124,148,189,190,197,207,208,248,249,254,264,265,281,282,287,297,298,328,329,334,344,345,368,369,372,373,374,378,379,385,386,392,393,399,400,410,418,419,425,426,443,444,449,455,456,462,463,469,470,476,477,481,482,486,487,493,494,500,501,507,508,512,513,519,520,524,525,531,532,538,539,545,546,552,553,559,560,566,567,571,572,576,577,583,584,588,589,595,596,602,603,609,610,616,617,621,622]
noncomputable def qv:Program:=view PySem.Challenge.pw_sumcraft_k57_terms_written_and_read [1,2,3,5,6,7,8,9,11,12,13,14,16,17,18,19,20,21,22,23,24,25,26,27,28,30,31,32,33,34,35,36,37,38,39,41,42,43,44,45,46,47,48,49,50,51,52,53,54,55,56,57,59,60,61,62,63,64,65,66,67,68,69,70,71,72,73]
def xt (s:Shared):Bool:=xlAt qv [] s && recOk (PySem.Challenge.rw_sumcraft_k57_terms_written_and_read.row.toRowW).records s
def hk:Hook:=kHook KK KA fun _=>rfl
set_option maxHeartbeats 0 in
theorem left:LeftO PySem.Challenge.pw_sumcraft_k57_terms_written_and_read qv [] xt hk.obs hk.val 8858:=
 LeftO.of_pieces (H₀:=boot_heap) (H₁:=hp6) (gs₁:=#[]) (d₁:={}) (k₁:=1042)
  (boot_open (by kernel_rfl) rfl fun s=>by kernel_rfl)
  (fun w=>by kernel_rfl) run0 (by kernel_rfl)
  fun w=>by kernel_rfl
set_option maxHeartbeats 0 in
theorem h_well:PySem.Challenge.rw_sumcraft_k57_terms_written_and_read.wellSaid=true:=by kernel_rfl
set_option maxHeartbeats 0 in
theorem h_bare:PySem.Challenge.rw_sumcraft_k57_terms_written_and_read.row.prog.bare:=⟨rfl,rfl,rfl,rfl,rfl,by decide +kernel⟩
end My
namespace L2
open PySem PySem.Spec PyProof.Rows
abbrev Key:=Sum Int Str
def keyIs:Key->Value->Bool
 | .inl k,v=>Value.isInt k v
 | .inr x,v=>Value.isStrOf x v
def keyH (w:World):Key->Int
 | .inl k=>hashInt k
 | .inr x=>hashStr w x
theorem keyIs_shape:∀{k:Key} {v:Value},keyIs k v=true->(∃i t,k=Sum.inl i∧v=Value.int i t)∨(∃x t,k=Sum.inr x∧v=Value.str x t)
 | .inl i,v,h=>by
  obtain⟨t,e⟩:=Value.isInt_shape (k:=i) (v:=v) h
  exact .inl ⟨i,t,rfl,e⟩
 | .inr x,v,h=>by
  obtain⟨t,e⟩:=Value.isStrOf_shape (x:=x) (v:=v) h
  exact .inr ⟨x,t,rfl,e⟩
theorem key_ll (a b:Int):decide ((Sum.inl a:Key)=Sum.inl b)=(a == b):=by
 by_cases e:a=b
 ·subst e;simp
 ·have h:¬(Sum.inl a:Key)=Sum.inl b:=fun q=>e (Sum.inl.inj q)
  rw [decide_eq_false h]
  exact (beq_eq_false_iff_ne.mpr e).symm
theorem key_rr (a b:Str):decide ((Sum.inr a:Key)=Sum.inr b)=decide (a=b):=by
 by_cases e:a=b
 ·subst e;simp
 ·have h:¬(Sum.inr a:Key)=Sum.inr b:=fun q=>e (Sum.inr.inj q)
  rw [decide_eq_false h,decide_eq_false e]
theorem key_lr (a:Int) (b:Str):decide ((Sum.inl a:Key)=Sum.inr b)=false:=decide_eq_false (fun q=>nomatch q)
theorem key_rl (a:Str) (b:Int):decide ((Sum.inr a:Key)=Sum.inl b)=false:=decide_eq_false (fun q=>nomatch q)
def mixKind (prog:Program) (w:World):PySem.KeyKind prog w Key where
 is:=keyIs
 hash:=keyH w
 inj:=fun v a b ha hb=>by
  rcases keyIs_shape ha with ⟨i,t,rfl,rfl⟩ | ⟨x,t,rfl,rfl⟩
  ·rcases keyIs_shape hb with ⟨j,u,rfl,e⟩ | ⟨y,u,rfl,e⟩
   ·injection e with e1 _;rw [e1]
   ·exact nomatch e
  ·rcases keyIs_shape hb with ⟨j,u,rfl,e⟩ | ⟨y,u,rfl,e⟩
   ·exact nomatch e
   ·injection e with e1 _;rw [e1]
 byValue:=fun k v h=>by
  rcases keyIs_shape h with ⟨i,t,rfl,rfl⟩ | ⟨x,t,rfl,rfl⟩ <;> rfl
 pyHash:=fun hv h=>by
  rcases keyIs_shape hv with ⟨i,t,rfl,rfl⟩ | ⟨x,t,rfl,rfl⟩
  ·exact wpAny_pyHash_int h
  ·exact wpAny_pyHash_str h
 eqBool:=fun hu hv h=>by
  rcases keyIs_shape hu with ⟨i,t,rfl,rfl⟩ | ⟨x,t,rfl,rfl⟩
  ·rcases keyIs_shape hv with ⟨j,u,rfl,rfl⟩ | ⟨y,u,rfl,rfl⟩
   ·rw [key_ll] at h;exact wpAny_eqBool_int h
   ·rw [key_lr] at h;exact SeqAt.EqAt.int_str i t y u _ _ _ _ h
  ·rcases keyIs_shape hv with ⟨j,u,rfl,rfl⟩ | ⟨y,u,rfl,rfl⟩
   ·rw [key_rl] at h;exact SeqAt.EqAt.str_int x t j u _ _ _ _ h
   ·rw [key_rr] at h;exact wpAny_eqBool_str h
 «strs»:=fun k x t v h=>by
  rcases keyIs_shape h with ⟨i,u,rfl,e⟩ | ⟨y,u,rfl,e⟩
  ·exact nomatch e
  ·injection e with e1 _
   subst e1
   cases v <;> rfl
inductive V where
 | non | bl (b:Bool) | int (i:Int) | str (x:Str) | byt (b:Array UInt8) | flt (b:UInt64) | ref (a:Addr) | ty (n:String)
 deriving DecidableEq
def RelV:V->Value->Prop
 | .non,u=>u=Value.none
 | .bl b,u=>u=Value.bool b
 | .int i,u=>∃t,u=Value.int i t
 | .str x,u=>∃t,u=Value.str x t
 | .byt b,u=>∃t,u=Value.bytes b t
 | .flt b,u=>∃t,u=Value.float b t
 | .ref a,u=>u=Value.ref a
 | .ty n,u=>u=Value.type n
abbrev Vals:List V->List Value->Prop:=Paired RelV
theorem Vals.length {xs:List V} {us:List Value} (r:Vals xs us):xs.length=us.length:=Paired.length r
theorem Vals.get:∀{xs:List V} {us:List Value} {i:Nat} {x:V},Vals xs us->xs[i]?=some x->∃u,us[i]?=some u∧RelV x u
 | _,_,_,_,.nil,e=>by simp at e
 | _,_,0,_,.cons r _,e=>by simp at e;subst e;exact⟨_,rfl,r⟩
 | _,_,i+1,x,.cons _ t,e=>by
  obtain⟨u,h1,h2⟩:=Vals.get (i:=i) (x:=x) t (by simpa using e)
  exact⟨u,by simpa using h1,h2⟩
theorem Vals.set {x:V} {u:Value} (r:RelV x u):∀{xs:List V} {us:List Value} (i:Nat),Vals xs us->Vals (xs.set i x) (us.set i u)
 | _,_,_,.nil=>.nil
 | _,_,0,.cons _ t=>.cons r t
 | _,_,i+1,.cons q t=>.cons q (Vals.set r i t)
theorem Vals.append:∀{xs ys:List V} {us ws:List Value},Vals xs us->Vals ys ws->Vals (xs++ys) (us++ws)
 | _,_,_,_,.nil,s=>s
 | _,_,_,_,.cons r t,s=>.cons r (Vals.append t s)
theorem Vals.take:∀{xs:List V} {us:List Value} (n:Nat),Vals xs us->Vals (xs.take n) (us.take n)
 | _,_,0,_=>.nil
 | _,_,_+1,.nil=>.nil
 | _,_,n+1,.cons r t=>.cons r (Vals.take n t)
theorem Vals.drop:∀{xs:List V} {us:List Value} (n:Nat),Vals xs us->Vals (xs.drop n) (us.drop n)
 | _,_,0,r=>r
 | _,_,_+1,.nil=>.nil
 | _,_,n+1,.cons _ t=>Vals.drop n t
def RelO:Option V->Option Value->Prop
 | some v,some u=>RelV v u
 | none,none=>True
 | _,_=>False
def KV {κ:Type}:List (κ×V)->List (κ×Value)->Prop:=Paired fun (p:κ×V) (q:κ×Value)=>p.1=q.1∧RelV p.2 q.2
def kV:Key->V
 | .inl i=>.int i
 | .inr x=>.str x
inductive HO where
  | lst (xs:List V)
  | tup (xs:List V)
  | dK (kvs:List (Key×V)) | dT (kvs:List (List Key×V))
  | set (S:Int->Bool) (n:Nat)
  | ins (C dx:Addr) (fs:List (Str×V))
  | own (x:Addr)
  | xd (fs:List (Str×V))
  | met (f x:Addr)
  | rng (lo hi:Int)
  | frz (o:Obj) (u:HO)
  | tbl (ps:Array Value)
  | ext (φ:Heap->Prop)
abbrev Hp:=Addr->Option HO
def upd (H:Hp) (a:Addr) (o:HO):Hp:=fun b=>if b=a then some o else H b
theorem upd_same {H:Hp} {a:Addr} {o:HO}:upd H a o a=some o:=by unfold upd;rw [if_pos rfl]
theorem upd_ne {H:Hp} {a b:Addr} {o:HO} (h:b≠a):upd H a o b=H b:=by unfold upd;rw [if_neg h]
theorem ne_of {H:Hp} {a b:Addr} {o u:HO} (h:H a=some o) (h':H b=some u) (d:o≠u):a≠b:=by
 intro e;subst e;rw [h] at h';exact d (Option.some.inj h')
theorem ne_of_none {H:Hp} {a b:Addr} {o:HO} (h:H a=some o) (h':H b=none):a≠b:=by
 intro e;subst e;rw [h] at h';cases h'
section
variable (P:Program) (w:World)
def ObjOk (H:Hp) (h:Heap) (a:Addr):HO->Prop
 | .lst xs=>xs.length<=sizeLine∧∃(its:List Value) (n:Nat),Vals xs its∧h.get? a=some { cls:=.type "list",data:=.seq its.toArray n }
 | .tup xs=>xs.length<=sizeLine∧∃its:List Value,Vals xs its∧IsTup h a its.toArray
 | .dK kvs=>kvs.length<=sizeLine∧(a == sysModules)=false∧∃vs,KV kvs vs∧h.DictOf (mixKind P w) a vs
 | .dT kvs=>kvs.length<=sizeLine∧(a == sysModules)=false∧∃xs:List (List Key×Addr×Value),
   Paired (fun (p:List Key×V) (q:List Key×Addr×Value)=>p.1=q.1∧H q.2.1=some (.tup (p.1.map kV))∧RelV p.2 q.2.2) kvs xs∧
   ∃o es ep,h.get? a=some o∧o.ExactDict∧o.data=.dict es ep∧es.toList=xs.map (entryOfKey (tupleKind (mixKind P w)))∧(xs.map (·.1)).Nodup
 | .set S n=>h.SetOf (intKind P w) a S n
 | .ins C dx fs=>H dx=some (.own a)∧fs.length<=1000∧dx≠a∧h.get? a=some (PySem.W.instObj C dx)∧
   ∃mA,h.Ns1 dx mA∧(∀f,RelO (fs.lookup f) (mA f))∧PySem.Within mA (fs.map (·.1))
 | .own _=>∃o,h.get? a=some o
 | .xd fs=>∃mA,h.Ns1 a mA∧∀f,RelO (fs.lookup f) (mA f)
 | .rng lo hi=>∃t u v,h.get? a=some { cls:=.type "range",data:=.fields #[.int lo t,.int hi u,.int 1 v] }
 | .frz o u=>h.get? a=some o∧ObjOk H h a u
 | .tbl ps=>h.get? a=some { cls:=.none,data:=.fields ps }
 | .met f x=>h.get? a=some (PySem.W.methodObj (.ref f) (.ref x))
 | .ext φ=>φ h∧(∃o,h.get? a=some o)∧∀h1 h2:Heap,φ h1->(∀o,h1.get? a=some o->h2.get? a=some o)->φ h2
def HOk (H:Hp) (h:Heap):Prop:=∀a o,H a=some o->ObjOk P w H h a o
end
section
variable {P:Program} {w:World} {H H':Hp} {h h':Heap} {a:Addr} {o:HO}
theorem ObjOk.lt (x:ObjOk P w H h a o):a < h.objs.size:=by
 cases o with
 | lst xs=>obtain⟨_,_,_,_,e⟩:=x;exact Heap.lt_size e
 | tup xs=>obtain⟨_,_,_,p⟩:=x;exact p.lt
 | dK kvs=>obtain⟨_,_,_,_,o,_,_,e,_⟩:=x;exact Heap.lt_size e
 | dT kvs=>obtain⟨_,_,_,_,o,_,_,e,_⟩:=x;exact Heap.lt_size e
 | set S n=>obtain⟨o,_,_,_,e,_⟩:=x;exact Heap.lt_size e
 | ins C dx fs=>obtain⟨_,_,_,e,_⟩:=x;exact Heap.lt_size e
 | own y=>obtain⟨_,e⟩:=x;exact Heap.lt_size e
 | xd fs=>obtain⟨_,⟨_,_,_,e,_⟩,_⟩:=x;exact Heap.lt_size e
 | rng lo hi=>obtain⟨_,_,_,e⟩:=x;exact Heap.lt_size e
 | frz ob u=>obtain⟨e,_⟩:=x;exact Heap.lt_size e
 | tbl ps=>exact Heap.lt_size (show h.get? a=some _ from x)
 | met f y=>exact Heap.lt_size (show h.get? a=some _ from x)
 | ext φ=>obtain⟨_,⟨_,e⟩,_⟩:=x;exact Heap.lt_size e
theorem Paired.mapP {α β:Type} {F G:α->β->Prop}:∀{l₁:List α} {l₂:List β},Paired F l₁ l₂->(∀a b,F a b->G a b)->Paired G l₁ l₂
 | _,_,.nil,_=>.nil
 | _,_,.cons r t,f=>.cons (f _ _ r) (Paired.mapP t f)
theorem ObjOk.stay (x:ObjOk P w H h a o) (k:∀b u,(b=a∨H b=some (.own a))->h.get? b=some u->h'.get? b=some u)
  (ho:∀b,H b=some (.own a)->H' b=some (.own a)) (ht:∀b xs,H b=some (.tup xs)->H' b=some (.tup xs)):ObjOk P w H' h' a o:=by
 induction o with
 | lst xs=>obtain⟨z,its,n,r,e⟩:=x;exact⟨z,its,n,r,k _ _ (.inl rfl) e⟩
 | tup xs=>obtain⟨z,its,r,ob,e,c⟩:=x;exact⟨z,its,r,ob,k _ _ (.inl rfl) e,c⟩
 | dK kvs=>obtain⟨z,y,vs,r,ob,es,ep,e,c⟩:=x;exact⟨z,y,vs,r,ob,es,ep,k _ _ (.inl rfl) e,c⟩
 | dT kvs=>
  obtain⟨z,y,xs,r,ob,es,ep,e,c⟩:=x
  exact⟨z,y,xs,Paired.mapP r fun p q z=>⟨z.1,ht _ _ z.2.1,z.2.2⟩,ob,es,ep,k _ _ (.inl rfl) e,c⟩
 | set S n=>obtain⟨ob,es,ep,t,e,c⟩:=x;exact⟨ob,es,ep,t,k _ _ (.inl rfl) e,c⟩
 | ins C dx fs=>
  obtain⟨d,z,ne,e,mA,⟨od,es,ep,e2,c⟩,r⟩:=x
  exact⟨ho _ d,z,ne,k _ _ (.inl rfl) e,mA,⟨od,es,ep,k _ _ (.inr d) e2,c⟩,r⟩
 | own y=>obtain⟨ob,e⟩:=x;exact⟨ob,k _ _ (.inl rfl) e⟩
 | xd fs=>obtain⟨mA,⟨od,es,ep,e,c⟩,r⟩:=x;exact⟨mA,⟨od,es,ep,k _ _ (.inl rfl) e,c⟩,r⟩
 | rng lo hi=>obtain⟨t,u,v,e⟩:=x;exact⟨t,u,v,k _ _ (.inl rfl) e⟩
 | frz ob u ih=>obtain⟨e,q⟩:=x;exact⟨k _ _ (.inl rfl) e,ih q⟩
 | tbl ps=>
  have e:h.get? a=some { cls:=.none,data:=.fields ps }:=x
  show h'.get? a=some { cls:=.none,data:=.fields ps }
  exact k a _ (.inl rfl) e
 | met f y=>
  have e:h.get? a=some (PySem.W.methodObj (.ref f) (.ref y)):=x
  show h'.get? a=some (PySem.W.methodObj (.ref f) (.ref y))
  exact k a _ (.inl rfl) e
 | ext φ=>obtain⟨p,⟨o,e⟩,st⟩:=x;exact⟨st _ _ p fun o q=>k _ _ (.inl rfl) q,⟨o,k _ _ (.inl rfl) e⟩,st⟩
theorem HOk.lt (x:HOk P w H h) (e:H a=some o):a < h.objs.size:=(x a o e).lt
theorem HOk.fresh (x:HOk P w H h) (e:h.objs.size<=a):H a=none:=by
 cases q:H a with
 | none=>rfl
 | some u=>exact absurd (Nat.lt_of_lt_of_le (x.lt q) e) (Nat.lt_irrefl _)
theorem HOk.kept (x:HOk P w H h) (k:∀b u,h.get? b=some u->h'.get? b=some u):HOk P w H h':=fun a o e=>
 (x a o e).stay (fun b u _ q=>k b u q) (fun _ q=>q) fun _ _ q=>q
theorem HOk.laid (x:HOk P w H h) (k:∀b u,h.get? b=some u->h'.get? b=some u) (hp:h.objs.size<=a) (new:ObjOk P w (upd H a o) h' a o):HOk P w (upd H a o) h':=fun b u e=>by
 have hn:=x.fresh hp
 by_cases hb:b=a
 ·subst hb;rw [upd_same] at e;cases e;exact new
 ·rw [upd_ne hb] at e
  exact (x b u e).stay (fun c v _ q=>k c v q) (fun c q=>by rw [upd_ne (ne_of_none q hn)];exact q) fun c xs q=>by rw [upd_ne (ne_of_none q hn)];exact q
end
def Rd (H:Hp) (a:Addr) (u:HO):Prop:=H a=some u∨∃o,H a=some (.frz o u)
theorem Rd.ok {P:Program} {w:World} {H:Hp} {h:Heap} {a:Addr} {u:HO} (r:Rd H a u) (x:HOk P w H h):ObjOk P w H h a u:=by
 rcases r with r | ⟨o,r⟩
 ·exact x a u r
 ·obtain⟨_,q⟩:=x a _ r
  exact q
def Mut:Option HO->Prop
 | some (.lst _)=>True
 | some (.dK _)=>True
 | some (.dT _)=>True
 | some (.set _ _)=>True
 | some (.ins _ _ _)=>True
 | some (.ext _)=>True
 | _=>False
section
variable {P:Program} {w:World} {H:Hp} {h h':Heap} {x e:Addr} {o':HO}
theorem HOk.write (ok:HOk P w H h) (mu:Mut (H x)) (he:e=x∨H e=some (.own x)) (k:∀b u,b≠e->h.get? b=some u->h'.get? b=some u) (heo:∃u,h'.get? e=some u)
  (new:ObjOk P w (upd H x o') h' x o'):HOk P w (upd H x o') h':=fun b u q=>by
 have nown:∀c y,H c=some (.own y)->c≠x:=fun c y r z=>by subst z;rw [r] at mu;exact mu
 have ntup:∀c xs,H c=some (.tup xs)->c≠x:=fun c xs r z=>by subst z;rw [r] at mu;exact mu
 by_cases hb:b=x
 ·subst hb;rw [upd_same] at q;cases q;exact new
 ·rw [upd_ne hb] at q
  by_cases hbe:b=e
  ·have q':H b=some (.own x):=by
    rcases he with z | z
    ·exact absurd (hbe.trans z) hb
    ·rw [hbe];exact z
   rw [q] at q';cases q'
   obtain⟨v,hv⟩:=heo
   exact⟨v,by rw [hbe];exact hv⟩
  ·refine (ok b u q).stay (fun c v hc r=>k c v ?_ r) (fun c r=>by rw [upd_ne (nown c b r)];exact r) fun c xs r=>by rw [upd_ne (ntup c xs r)];exact r
   rcases hc with rfl | hc
   ·exact hbe
   ·rintro rfl
    rcases he with z | z
    ·exact nown c b hc z
    ·rw [hc] at z;cases z;exact hb rfl
end
structure Un (fs ex:List Addr) (H H':Hp) (h h':Heap):Prop where
 keep:∀b o,h.get? b=some o->H b=none->b∉fs->b∉ex->h'.get? b=some o
 slot:∀b o,h.get? b=some o->H b=none->b∈fs->b∉ex->∃sl,h'.get? b=some { o with slots:=sl }
 free:∀b o,h.get? b=some o->H b=none->b∉ex->H' b=none
 there:∀b o,h.get? b=some o->b∉ex->∃o',h'.get? b=some o'
 tups:∀b xs,H b=some (.tup xs)->H' b=some (.tup xs)
 frzs:∀b o u,H b=some (.frz o u)->H' b=some (.frz o u)
 tbls:∀b ps,H b=some (.tbl ps)->∃more,H' b=some (.tbl (ps++more))
section
variable {fs fs' ex ex':List Addr} {H H1 H2:Hp} {h h1 h2 h':Heap} {a x e:Addr} {o:HO}
theorem Un.any (u:Un fs ex H H1 h h1) {b:Addr} {ob:Obj} (q:h.get? b=some ob) (n:H b=none) (hx:b∉ex):∃sl,h1.get? b=some { ob with slots:=sl }:=by
 by_cases hb:b∈fs
 ·exact u.slot b ob q n hb hx
 ·exact⟨ob.slots,u.keep b ob q n hb hx⟩
theorem Un.trans (a:Un fs ex H H1 h h1) (b:Un fs ex H1 H2 h1 h2):Un fs ex H H2 h h2 where
 keep:=fun c ob q n hc hx=>b.keep c ob (a.keep c ob q n hc hx) (a.free c ob q n hx) hc hx
 slot:=fun c ob q n hc hx=>by
  obtain⟨sl,e1⟩:=a.slot c ob q n hc hx
  obtain⟨sl',e2⟩:=b.slot c _ e1 (a.free c ob q n hx) hc hx
  exact⟨sl',e2⟩
 free:=fun c ob q n hx=>by
  obtain⟨o',e1⟩:=a.there c ob q hx
  exact b.free c o' e1 (a.free c ob q n hx) hx
 there:=fun c ob q hx=>by
  obtain⟨o',e1⟩:=a.there c ob q hx
  exact b.there c o' e1 hx
 tups:=fun c xs q=>b.tups c xs (a.tups c xs q)
 frzs:=fun c ob xs q=>b.frzs c ob xs (a.frzs c ob xs q)
 tbls:=fun c ps q=>by
  obtain⟨m1,e1⟩:=a.tbls c ps q
  obtain⟨m2,e2⟩:=b.tbls c _ e1
  exact⟨m1++m2,by rw [e2,Array.append_assoc]⟩
theorem Un.kept (k:∀b u,h.get? b=some u->h'.get? b=some u):Un fs ex H H h h':=
 ⟨fun b ob q _ _ _=>k b ob q,fun b ob q _ _ _=>⟨ob.slots,k b ob q⟩,fun _ _ _ n _=>n,fun b ob q _=>⟨ob,k b ob q⟩,fun _ _ q=>q,fun _ _ _ q=>q,fun _ ps q=>⟨#[],by rw [q];simp⟩⟩
theorem Un.refl:Un fs ex H H h h:=Un.kept fun _ _ q=>q
theorem Un.laid (k:∀b u,h.get? b=some u->h'.get? b=some u) (hp:h.objs.size<=a) (hn:H a=none):Un fs ex H (upd H a o) h h' where
 keep:=fun b u q _ _ _=>k b u q
 slot:=fun b u q _ _ _=>⟨u.slots,k b u q⟩
 free:=fun b u q n _=>by rw [upd_ne (Nat.ne_of_lt (Nat.lt_of_lt_of_le (Heap.lt_size q) hp))];exact n
 there:=fun b u q _=>⟨u,k b u q⟩
 tups:=fun b xs q=>by rw [upd_ne (ne_of_none q hn)];exact q
 frzs:=fun b u xs q=>by rw [upd_ne (ne_of_none q hn)];exact q
 tbls:=fun b ps q=>⟨#[],by rw [upd_ne (ne_of_none q hn),q];simp⟩
theorem Un.write (mu:Mut (H x)) (he:e=x∨H e=some (.own x)) (k:∀b u,b≠e->h.get? b=some u->h'.get? b=some u) (heo:∃u,h'.get? e=some u):Un fs ex H (upd H x o) h h':=by
 have hx:∀b,H b=none->b≠x:=fun b n z=>by subst z;rw [n] at mu;exact mu
 have hb:∀b,H b=none->b≠e:=fun b n z=>by
  subst z
  rcases he with r | r
  ·exact hx b n r
  ·rw [n] at r;cases r
 have hm:∀b u,H b=some u->¬Mut (some u)->b≠x:=fun b u q nm z=>by subst z;rw [q] at mu;exact nm mu
 refine⟨fun b u q n _ _=>k b u (hb b n) q,fun b u q n _ _=>⟨u.slots,k b u (hb b n) q⟩,fun b u q n _=>by rw [upd_ne (hx b n)];exact n,fun b u q _=>?_,
  fun b xs q=>by rw [upd_ne (hm b _ q fun z=>z)];exact q,fun b u xs q=>by rw [upd_ne (hm b _ q fun z=>z)];exact q,fun b ps q=>⟨#[],by rw [upd_ne (hm b _ q fun z=>z),q];simp⟩⟩
 by_cases hbe:b=e
 ·subst hbe;exact heo
 ·exact⟨u,k b u hbe q⟩
end
def trk (h:Heap) (H:Hp):List Addr:=(List.range h.objs.size).filter fun a=>(H a).isSome
def hidT (h:Heap) (H:Hp):Heap:=PySem.W.hideAll h (trk h H)
theorem hidT_size (h:Heap) (H:Hp):(hidT h H).objs.size=h.objs.size:=PySem.W.hideAll_size _ _
theorem hidT_get {h:Heap} {H:Hp} {b:Addr} {o:Obj} (e:h.get? b=some o) (n:H b=none):(hidT h H).get? b=some o:=
 PySem.W.hideAll_get _ e fun hm=>by
  have q:(H b).isSome=true:=(List.mem_filter.mp hm).2
  rw [n] at q;simp at q
theorem of_hidT {h:Heap} {H:Hp} {b:Addr} {o:Obj} (e:(hidT h H).get? b=some o):h.get? b=some o∧H b=none:=by
 have e':h.get? b=some o:=PySem.W.of_hideAll (trk h H) e
 refine⟨e',?_⟩
 cases q:H b with
 | none=>rfl
 | some x=>
  have hm:b∈trk h H:=List.mem_filter.mpr ⟨List.mem_range.mpr (Heap.lt_size e'),by simp [q]⟩
  have z:(hidT h H).get? b=none:=PySem.W.hideAll_none (trk h H) hm
  rw [z] at e;cases e
def allNews (g h:Heap) (L:Addr):List (Addr×Obj):=(List.range h.objs.size).filterMap fun a=>if a=L∨(g.get? a).isSome=true then none else (h.get? a).map fun o=>(a,o)
def rest (g h:Heap) (L d:Addr):List (Addr×Obj):=(allNews g h L).filter fun p=>decide (p.1≠d)
structure Mod (K:W.Frag) (mg:Str->Option Value) (base:Heap):Prop where
 kin:K.In base
 glob:base.Ns mainGlobals mg
 blt:∃mb,base.Ns builtinsNs mb∧∀x:Str,x ≠ "__name__" -> mb x=bootBuiltins x
 nolimit:base.NoLimit
structure Cx where
 prog:Program
 w:World
 K:W.Frag
 mg:Str->Option Value
 base:Heap
 A:Around
 N:List Str
 s₀:Shared
 H₀:Hp
 env:Env
 outer:List Env
 stack:List Env
 ex:List Addr
 fn:Str->Bool
 calm:Bool
 pn:List (Addr×Obj)
 xe:Value->Shared->Prop
def frs (l:List Env):List Addr:=l.filterMap (·.frame)
abbrev Cx.fs (X:Cx):List Addr:=frs X.outer
def Vis (sc:Scope) (x:Str):Prop:=sc.names.lookup x=some .local∨sc.names.lookup x=some .cell∨sc.names.lookup x=some .free
def Loc (sc:Scope) (x:Str):Prop:=sc.names.lookup x=some .local∨sc.names.lookup x=some .cell
def Look (env:Env) (h:Heap) (m:Str->Option Value) (x:Str) (u:Value):Prop:=
 (env.kindOf x=some .local∧m x=some u)∨((env.kindOf x=some .cell∨env.kindOf x=some .free)∧∃c,env.cells.lookup x=some c∧h.IsCell c (some u))
structure Cx.Ok (X:Cx):Prop where
 mod:Mod X.K X.mg X.base
 kind:X.env.scope.kind=.function
 glob:X.env.globals=mainGlobals
 blt:X.env.builtins=builtinsNs
 above:X.s₀.heap.objs.size<=X.env.locals
 inj:∀x y c,X.env.cells.lookup x=some c->X.env.cells.lookup y=some c->x=y
 has:∀x,(X.env.kindOf x=some .cell∨X.env.kindOf x=some .free)->∃c,X.env.cells.lookup x=some c
 cab:∀x c,X.fn x=true->X.env.cells.lookup x=some c->X.s₀.heap.objs.size<=c
 hd:X.calm=true->X.A.handled=none
 frames:X.A.frames=some X.stack
 stk:X.stack=X.outer∨(X.stack=X.env :: X.outer∧X.env.frame=some X.env.locals)
 exf:∀b∈X.ex,b≠X.env.locals∧∀x c,X.env.cells.lookup x=some c->c≠b
 bs:∀b o,X.base.get? b=some o->X.s₀.heap.get? b=some o∧X.H₀ b=none
 bsz:X.base.objs.size<=X.s₀.heap.objs.size
 noex:∀b o,X.base.get? b=some o->b∉X.ex
 exfs:∀b∈X.ex,b∉X.fs
 funs:X.s₀.heap.FunFrames X.base X.outer
 frf:∀b∈X.fs,X.H₀ b=none
structure Inv (X:Cx) (pins:List (Addr×Obj)) (σ:List (Option V)) (H:Hp) (s:Shared):Prop where
 ok:X.Ok
 os:s.os=X.s₀.os
 bare:AllBare s.gens
 base:Un X.fs X.ex X.H₀ H X.s₀.heap s.heap
 loc:∃m,s.heap.Ns X.env.locals m∧∀(i:Nat) (x:Str) (v:V),X.N[i]?=some x->σ[i]?=some (some v)->Vis X.env.scope x->∃u,RelV v u∧Look X.env s.heap m x u
 cell:∀x c,X.env.cells.lookup x=some c->∃v,s.heap.IsCell c v
 free:H X.env.locals=none
 freeC:∀x c,X.env.cells.lookup x=some c->H c=none
 pin:∀p∈X.pn++pins,s.heap.get? p.1=some p.2∧H p.1=none∧p.1≠X.env.locals∧p.1∉X.fs∧∀v,p.2.data≠.cell v
 hok:HOk X.prog X.w H s.heap
 len:σ.length=X.N.length
section
variable {X:Cx} {pins:List (Addr×Obj)} {σ:List (Option V)} {H H':Hp} {s:Shared} {h':Heap}
theorem Cx.Ok.nofr (ok:X.Ok) {b:Addr} {o:Obj} (e:X.base.get? b=some o):b∉X.fs:=fun hb=>by
 have:=(ok.funs.mem hb).1
 rw [e] at this;cases this
theorem Inv.bs (I:Inv X pins σ H s):∀b o,X.base.get? b=some o->s.heap.get? b=some o∧H b=none:=fun b o e=>
 ⟨I.base.keep b o (I.ok.bs b o e).1 (I.ok.bs b o e).2 (I.ok.nofr e) (I.ok.noex b o e),I.base.free b o (I.ok.bs b o e).1 (I.ok.bs b o e).2 (I.ok.noex b o e)⟩
theorem Inv.bk (I:Inv X pins σ H s):∀b o,X.base.get? b=some o->s.heap.get? b=some o:=fun b o e=>(I.bs b o e).1
theorem Inv.mod (I:Inv X pins σ H s):Mod X.K X.mg X.base:=I.ok.mod
theorem Inv.kIn (I:Inv X pins σ H s):X.K.In s.heap:=I.ok.mod.kin.keeps I.bk
theorem Inv.lt (I:Inv X pins σ H s):X.env.locals < s.heap.objs.size:=let ⟨_,hn,_⟩:=I.loc;hn.lt
theorem Inv.sz (I:Inv X pins σ H s):X.s₀.heap.objs.size<=s.heap.objs.size:=Nat.le_trans I.ok.above (Nat.le_of_lt I.lt)
theorem Inv.nofs (I:Inv X pins σ H s) {a:Addr} (h:s.heap.objs.size<=a):a∉X.fs:=fun hb=>by
 obtain⟨_,o,ho,_⟩:=I.ok.funs.mem hb
 exact absurd (Nat.lt_of_lt_of_le (Heap.lt_size ho) (Nat.le_trans I.sz h)) (Nat.lt_irrefl _)
theorem Inv.cne (I:Inv X pins σ H s):∀x c,X.env.cells.lookup x=some c->c≠X.env.locals:=fun x c e z=>by
 obtain⟨v,o,ho,hd⟩:=I.cell x c e
 obtain⟨m,⟨o',es,ep,ho',hd',_⟩,_⟩:=I.loc
 rw [z,ho'] at ho;cases ho;rw [hd'] at hd;cases hd
theorem Inv.funs (I:Inv X pins σ H s):s.heap.FunFrames X.base X.outer:=by
 have all:∀(l:List Env),(∀b∈frs l,b∈X.fs)->X.s₀.heap.FunFrames X.base l->s.heap.FunFrames X.base l:=by
  intro l
  induction l with
  | nil=>intro _ _;trivial
  | cons env r ih=>
   intro hs hl
   obtain⟨hk,⟨L,o,hf,hn,ho,hd⟩,hr⟩:=hl
   have hL:L∈X.fs:=hs L (by unfold frs;rw [List.filterMap_cons,hf];exact List.mem_cons_self)
   obtain⟨sl,e⟩:=I.base.slot L o ho (I.ok.frf L hL) hL fun z=>I.ok.exfs L z hL
   exact⟨hk,⟨L,_,hf,hn,e,hd⟩,ih (fun b hb=>hs b (by unfold frs;rw [List.filterMap_cons,hf];exact List.mem_cons_of_mem _ hb)) hr⟩
 exact all X.outer (fun _ hb=>hb) I.ok.funs
theorem Inv.stack (I:Inv X pins σ H s):s.heap.FunFrames X.base X.stack:=by
 rcases I.ok.stk with e | ⟨e,hf⟩
 ·rw [e];exact I.funs
 ·rw [e]
  obtain⟨m,hn,_⟩:=I.loc
  refine .cons (by rw [I.ok.kind];decide) hf hn ?_ I.funs
  exact Heap.get?_none_of_le (Nat.le_trans I.ok.bsz I.ok.above)
theorem Inv.stkSub (I:Inv X pins σ H s):∀b∈frs X.stack,b∈X.env.locals :: X.fs:=fun b hb=>by
 rcases I.ok.stk with e | ⟨e,hf⟩
 ·rw [e] at hb;exact List.mem_cons_of_mem _ hb
 ·rw [e] at hb
  unfold frs at hb
  rw [List.filterMap_cons,hf] at hb
  exact hb
theorem Inv.stkFree (I:Inv X pins σ H s):∀b∈frs X.stack,H b=none:=fun b hb=>by
 rcases List.mem_cons.mp (I.stkSub b hb) with e | hb
 ·rw [e];exact I.free
 ·obtain⟨_,o,ho,_⟩:=I.ok.funs.mem hb
  exact I.base.free b o ho (I.ok.frf b hb) fun z=>I.ok.exfs b z hb
theorem Inv.step {g':Array GenState} {t':Nat} {d':Drawn} {ch:List Addr} (I:Inv X pins σ H s)
  (hch:∀b∈ch,(b∈X.ex∨X.s₀.heap.objs.size<=b)∧b≠X.env.locals∧(∀x c,X.env.cells.lookup x=some c->c≠b)∧∀p∈X.pn++pins,p.1≠b)
  (keep:∀b o,b≠X.env.locals->b∉X.fs->b∉ch->s.heap.get? b=some o->H b=none->h'.get? b=some o)
  (slot:∀b o,b≠X.env.locals->b∈X.fs->b∉ch->s.heap.get? b=some o->H b=none->∃sl,h'.get? b=some { o with slots:=sl }) (free:∀b o,b∉ch->s.heap.get? b=some o->H b=none->H' b=none)
  (there:∀b o,b∉ch->s.heap.get? b=some o->∃o',h'.get? b=some o')
  (tups:∀b xs,H b=some (.tup xs)->H' b=some (.tup xs)) (frzs:∀b o u,H b=some (.frz o u)->H' b=some (.frz o u)) (tbls:∀b ps,H b=some (.tbl ps)->∃more,H' b=some (.tbl (ps++more)))
  (ns:∀m,s.heap.Ns X.env.locals m->h'.Ns X.env.locals m) (hok:HOk X.prog X.w H' h') (hg:AllBare g'):
  Inv X pins σ H' { s with heap:=h',gens:=g',drawn:=d',toks:=t' }:=by
 have neL:∀b o,X.s₀.heap.get? b=some o->b≠X.env.locals:=fun b o e=>Nat.ne_of_lt (Nat.lt_of_lt_of_le (Heap.lt_size e) I.ok.above)
 have neC:∀b o,X.s₀.heap.get? b=some o->b∉X.ex->b∉ch:=fun b o e hx hb=>by
  rcases (hch b hb).1 with z | z
  ·exact hx z
  ·exact absurd (Nat.lt_of_lt_of_le (Heap.lt_size e) z) (Nat.lt_irrefl _)
 have cellK:∀x c,X.env.cells.lookup x=some c->∀v,s.heap.IsCell c v->h'.IsCell c v:=fun x c e v ⟨o,ho,hd⟩=>by
  have nch:c∉ch:=fun z=>(hch c z).2.2.1 x c e rfl
  by_cases hc:c∈X.fs
  ·obtain⟨sl,q⟩:=slot c o (I.cne x c e) hc nch ho (I.freeC x c e)
   exact⟨_,q,hd⟩
  ·exact⟨o,keep c o (I.cne x c e) hc nch ho (I.freeC x c e),hd⟩
 refine⟨I.ok,I.os,hg,⟨fun b o e n hb hx=>?_,fun b o e n hb hx=>?_,fun b o e n hx=>?_,fun b o e hx=>?_,fun b xs e=>tups b xs (I.base.tups b xs e),fun b o xs e=>frzs b o xs (I.base.frzs b o xs e),fun b ps e=>?_⟩,?_,fun x c e=>?_,?_,fun x c e=>?_,fun p hp=>?_,hok,I.len⟩
 ·exact keep b o (neL b o e) hb (neC b o e hx) (I.base.keep b o e n hb hx) (I.base.free b o e n hx)
 ·obtain⟨sl,e1⟩:=I.base.slot b o e n hb hx
  obtain⟨sl',e2⟩:=slot b _ (neL b o e) hb (neC b o e hx) e1 (I.base.free b o e n hx)
  exact⟨sl',e2⟩
 ·obtain⟨o',e1⟩:=I.base.there b o e hx
  exact free b o' (neC b o e hx) e1 (I.base.free b o e n hx)
 ·obtain⟨o',e1⟩:=I.base.there b o e hx
  exact there b o' (neC b o e hx) e1
 ·obtain⟨m1,e1⟩:=I.base.tbls b ps e
  obtain⟨m2,e2⟩:=tbls b _ e1
  exact⟨m1++m2,by rw [e2,Array.append_assoc]⟩
 ·obtain⟨m,hn,hl⟩:=I.loc
  refine⟨m,ns m hn,fun i x v e1 e2 e3=>?_⟩
  obtain⟨u,r,l⟩:=hl i x v e1 e2 e3
  refine⟨u,r,?_⟩
  rcases l with l | ⟨k,c,e,z⟩
  ·exact .inl l
  ·exact .inr ⟨k,c,e,cellK x c e _ z⟩
 ·obtain⟨v,z⟩:=I.cell x c e
  exact⟨v,cellK x c e v z⟩
 ·obtain⟨m,⟨o,_,_,ho,_⟩,_⟩:=I.loc
  exact free _ o (fun z=>(hch _ z).2.1 rfl) ho I.free
 ·obtain⟨v,o,ho,hd⟩:=I.cell x c e
  exact free c o (fun z=>(hch c z).2.2.1 x c e rfl) ho (I.freeC x c e)
 ·obtain⟨e,n,ne,nf,d⟩:=I.pin p hp
  have nch:p.1∉ch:=fun z=>(hch p.1 z).2.2.2 p hp rfl
  exact⟨keep p.1 p.2 ne nf nch e n,free p.1 p.2 nch e n,ne,nf,d⟩
theorem Inv.un {t':Nat} (I:Inv X pins σ H s) (u:Un X.fs [] H H' s.heap h') (hok:HOk X.prog X.w H' h'):Inv X pins σ H' { s with heap:=h',toks:=t' }:=by
 obtain⟨m,⟨o,es,ep,ho,r⟩,_⟩:=id I.loc
 obtain⟨sl,hL⟩:=u.any ho I.free (by simp)
 exact I.step (g':=s.gens) (d':=s.drawn) (ch:=[]) (fun _ z=>nomatch z) (fun b o _ hb _ e n=>u.keep b o e n hb (by simp)) (fun b o _ hb _ e n=>u.slot b o e n hb (by simp)) (fun b o _ e n=>u.free b o e n (by simp)) (fun b o _ e=>u.there b o e (by simp)) u.tups u.frzs u.tbls (fun m' hm=>by
  obtain⟨o',es',ep',ho',r'⟩:=hm
  rw [ho] at ho';cases ho'
  exact⟨_,es',ep',hL,r'⟩) hok I.bare
theorem Inv.call {g':Array GenState} {t':Nat} {d':Drawn} {ch:List Addr} (I:Inv X pins σ H s) (u:Un (frs X.stack) ch H H' s.heap h') (hok:HOk X.prog X.w H' h') (hg:AllBare g')
  (hch:∀b∈ch,(b∈X.ex∨X.s₀.heap.objs.size<=b)∧b≠X.env.locals∧(∀x c,X.env.cells.lookup x=some c->c≠b)∧∀p∈X.pn++pins,p.1≠b):
  Inv X pins σ H' { s with heap:=h',gens:=g',drawn:=d',toks:=t' }:=by
 obtain⟨m,⟨o,es,ep,ho,r⟩,_⟩:=id I.loc
 obtain⟨sl,hL⟩:=u.any ho I.free fun z=>(hch _ z).2.1 rfl
 exact I.step (ch:=ch) hch (fun b o hL hb hc e n=>u.keep b o e n (fun z=>(List.mem_cons.mp (I.stkSub b z)).elim hL hb) hc) (fun b o _ _ hc e n=>u.any e n hc) (fun b o hc e n=>u.free b o e n hc) (fun b o hc e=>u.there b o e hc) u.tups u.frzs u.tbls (fun m' hm=>by
  obtain⟨o',es',ep',ho',r'⟩:=hm
  rw [ho] at ho';cases ho'
  exact⟨_,es',ep',hL,r'⟩) hok hg
theorem Inv.turned {t':Nat} {it:Addr} (I:Inv X pins σ H s) (k:∀b o,b≠it->s.heap.get? b=some o->h'.get? b=some o) (hn:H it=none) (hL:it≠X.env.locals)
  (h1:it∈X.ex∨X.s₀.heap.objs.size<=it) (h2:∀x c,X.env.cells.lookup x=some c->c≠it) (h3:∀p∈X.pn++pins,p.1≠it):Inv X pins σ H { s with heap:=h',toks:=t' }:=by
 have nit:∀b u,H b=some u->b≠it:=fun b u e z=>by rw [z,hn] at e;cases e
 refine I.step (g':=s.gens) (d':=s.drawn) (ch:=[it]) (fun b hb=>?_) (fun b o _ _ hc e _=>k b o (fun z=>hc (by simp [z])) e) (fun b o _ _ hc e _=>⟨o.slots,k b o (fun z=>hc (by simp [z])) e⟩) (fun _ _ _ _ n=>n)
  (fun b o hc e=>⟨o,k b o (fun z=>hc (by simp [z])) e⟩) (fun _ _ e=>e) (fun _ _ _ e=>e) (fun b ps e=>⟨#[],by rw [e];simp⟩) (fun m hm=>?_) (fun b u e=>?_) I.bare
 ·have e:b=it:=by simpa using hb
  subst e
  exact⟨h1,hL,h2,h3⟩
 ·obtain⟨o,es,ep,ho,r⟩:=hm
  exact⟨o,es,ep,k _ o (Ne.symm hL) ho,r⟩
 ·refine (I.hok b u e).stay (fun c v hc q=>k c v ?_ q) (fun _ q=>q) fun _ _ q=>q
  rcases hc with z | z
  ·rw [z];exact nit b u e
  ·exact nit c _ z
theorem Inv.tok (I:Inv X pins σ H s) (t:Nat):Inv X pins σ H { s with toks:=t }:=I.un (h':=s.heap) (t':=t) Un.refl I.hok
theorem Inv.kept {t':Nat} (I:Inv X pins σ H s) (k:∀b u,s.heap.get? b=some u->h'.get? b=some u):Inv X pins σ H { s with heap:=h',toks:=t' }:=I.un (Un.kept k) (I.hok.kept k)
theorem Inv.laid {a:Addr} {o:HO} {t':Nat} (I:Inv X pins σ H s) (k:∀b u,s.heap.get? b=some u->h'.get? b=some u) (hp:s.heap.objs.size<=a) (new:ObjOk X.prog X.w (upd H a o) h' a o):
  Inv X pins σ (upd H a o) { s with heap:=h',toks:=t' }:=I.un (Un.laid k hp (I.hok.fresh hp)) (I.hok.laid k hp new)
theorem Inv.write {x e:Addr} {o:HO} {t':Nat} (I:Inv X pins σ H s) (mu:Mut (H x)) (he:e=x∨H e=some (.own x)) (k:∀b u,b≠e->s.heap.get? b=some u->h'.get? b=some u) (heo:∃u,h'.get? e=some u)
  (new:ObjOk X.prog X.w (upd H x o) h' x o):Inv X pins σ (upd H x o) { s with heap:=h',toks:=t' }:=I.un (Un.write mu he k heo) (I.hok.write mu he k heo new)
theorem Inv.pins_of {pins':List (Addr×Obj)} (I:Inv X pins σ H s) (h:∀p∈pins',s.heap.get? p.1=some p.2∧H p.1=none∧p.1≠X.env.locals∧p.1∉X.fs∧∀v,p.2.data≠.cell v):Inv X pins' σ H s:=
 ⟨I.ok,I.os,I.bare,I.base,I.loc,I.cell,I.free,I.freeC,fun p hp=>(List.mem_append.mp hp).elim (fun z=>I.pin p (List.mem_append_left _ z)) (h p),I.hok,I.len⟩
theorem nodup_ix {N:List Str} (hN:N.Nodup) {i j:Nat} {x:Str} (a:N[i]?=some x) (b:N[j]?=some x):i=j:=by
 obtain⟨h1,e1⟩:=List.getElem?_eq_some_iff.mp a
 obtain⟨h2,e2⟩:=List.getElem?_eq_some_iff.mp b
 exact (List.getElem_inj hN).mp (e1.trans e2.symm)
theorem store_ok2 {M:Model} {A:Around} {E:Value->Shared->Prop} {i:Nat} {x:Str} {v:V} {u:Value} {Q:Unit->Shared->Prop} (I:Inv X pins σ H s) (hN:X.N.Nodup) (hi:X.N[i]?=some x) (hx:Loc X.env.scope x) (r:RelV v u)
  (h:∀s',Inv X pins (σ.set i (some v)) H s'->(∃a,Heap.SameBut a s.heap s'.heap∧(a=X.env.locals∨X.env.cells.lookup x=some a))->Q () s') (hf:X.fn x=true∨X.env.scope.names.lookup x=some .local:=by first | exact .inl rfl | exact .inr rfl | assumption):wpAny M A (storeName X.env x u) Q E s:=by
 obtain⟨m,hn,hl⟩:=id I.loc
 have hcls:(X.env.scope.kind == .class || (X.env.scope.kind == .module && X.env.locals != X.env.globals))=false:=by rw [I.ok.kind];rfl
 have hiσ:i < σ.length:=by rw [I.len];exact (List.getElem?_eq_some_iff.mp hi).1
 have cne:=I.cne
 have tracked:∀{a:Addr} {h':Heap},(∃o,s.heap.get? a=some o∧H a=none)->Heap.SameBut a s.heap h'->HOk X.prog X.w H h':=fun {a h'} ha hs b ob e=>by
  obtain⟨_,_,hfree⟩:=ha
  refine (I.hok b ob e).stay (fun c w' hc q=>(hs.2 c ?_).trans q) (fun _ q=>q) fun _ _ q=>q
  rintro rfl
  rcases hc with rfl | hc
  ·rw [hfree] at e;cases e
  ·rw [hfree] at hc;cases hc
 rcases hx with hk | hk
 ·refine wpAny_storeName_local hk hn (fun h' hn' hs=>?_) hcls
  obtain⟨oL,_,_,hoL,_⟩:=id hn
  refine h _ ⟨I.ok,I.os,I.bare,⟨fun b o e n hb hx=>?_,fun b o e n hb hx=>?_,I.base.free,fun b o e hx=>?_,I.base.tups,I.base.frzs,I.base.tbls⟩,⟨_,hn',fun j y v' e1 e2 e3=>?_⟩,fun y c e=>?_,I.free,I.freeC,fun p hp=>?_,tracked ⟨oL,hoL,I.free⟩ hs,by simpa using I.len⟩ ⟨_,hs,.inl rfl⟩
  ·exact (hs.2 b (Nat.ne_of_lt (Nat.lt_of_lt_of_le (Heap.lt_size e) I.ok.above))).trans (I.base.keep b o e n hb hx)
  ·obtain⟨sl,e1⟩:=I.base.slot b o e n hb hx
   exact⟨sl,(hs.2 b (Nat.ne_of_lt (Nat.lt_of_lt_of_le (Heap.lt_size e) I.ok.above))).trans e1⟩
  ·obtain⟨o',e1⟩:=I.base.there b o e hx
   exact⟨o',(hs.2 b (Nat.ne_of_lt (Nat.lt_of_lt_of_le (Heap.lt_size e) I.ok.above))).trans e1⟩
  ·by_cases hj:j=i
   ·subst hj
    rw [hi] at e1;cases e1
    rw [List.getElem?_set_self hiσ] at e2
    cases e2
    exact⟨u,r,.inl ⟨hk,by simp⟩⟩
   ·rw [List.getElem?_set_ne (Ne.symm hj)] at e2
    obtain⟨u',r',q⟩:=hl j y v' e1 e2 e3
    refine⟨u',r',?_⟩
    rcases q with ⟨k,e⟩ | ⟨k,c,e,z⟩
    ·refine .inl ⟨k,?_⟩
     have:y≠x:=fun e=>hj (nodup_ix hN e1 (e ▸ hi))
     simp [this,e]
    ·exact .inr ⟨k,c,e,z.sameBut hs (cne y c e)⟩
  ·obtain⟨w',z⟩:=I.cell y c e
   exact⟨w',z.sameBut hs (cne y c e)⟩
  ·obtain⟨e,n,ne,nf,d⟩:=I.pin p hp
   exact⟨(hs.2 p.1 ne).trans e,n,ne,nf,d⟩
 ·have hfn:X.fn x=true:=by
   rcases hf with z | z
   ·exact z
   ·rw [z] at hk;cases hk
  obtain⟨c,hc⟩:=I.ok.has x (.inl hk)
  obtain⟨w',z⟩:=I.cell x c hc
  refine wpAny_storeName_cell I.ok.kind hk hc z (fun h' hc' hs=>?_)
  obtain⟨oc,hoc,hocd⟩:=id z
  refine h { s with heap:=h' } ⟨I.ok,I.os,I.bare,⟨fun b o e n hb hx=>?_,fun b o e n hb hx=>?_,I.base.free,fun b o e hx=>?_,I.base.tups,I.base.frzs,I.base.tbls⟩,⟨m,hn.sameBut hs (Ne.symm (cne x c hc)),fun j y v' e1 e2 e3=>?_⟩,fun y c' e=>?_,I.free,I.freeC,fun p hp=>?_,tracked ⟨oc,hoc,I.freeC x c hc⟩ hs,by simpa using I.len⟩ ⟨c,hs,.inr hc⟩
  ·exact (hs.2 b (Nat.ne_of_lt (Nat.lt_of_lt_of_le (Heap.lt_size e) (I.ok.cab x c hfn hc)))).trans (I.base.keep b o e n hb hx)
  ·obtain⟨sl,e1⟩:=I.base.slot b o e n hb hx
   exact⟨sl,(hs.2 b (Nat.ne_of_lt (Nat.lt_of_lt_of_le (Heap.lt_size e) (I.ok.cab x c hfn hc)))).trans e1⟩
  ·obtain⟨o',e1⟩:=I.base.there b o e hx
   exact⟨o',(hs.2 b (Nat.ne_of_lt (Nat.lt_of_lt_of_le (Heap.lt_size e) (I.ok.cab x c hfn hc)))).trans e1⟩
  ·by_cases hj:j=i
   ·subst hj
    rw [hi] at e1;cases e1
    rw [List.getElem?_set_self hiσ] at e2
    cases e2
    exact⟨u,r,.inr ⟨.inl hk,c,hc,hc'⟩⟩
   ·rw [List.getElem?_set_ne (Ne.symm hj)] at e2
    obtain⟨u',r',q⟩:=hl j y v' e1 e2 e3
    refine⟨u',r',?_⟩
    rcases q with q | ⟨k,c',e,z'⟩
    ·exact .inl q
    ·refine .inr ⟨k,c',e,z'.sameBut hs ?_⟩
     rintro rfl
     exact hj (nodup_ix hN e1 (I.ok.inj _ _ _ e hc ▸ hi))
  ·by_cases hcc:c'=c
   ·subst hcc;exact⟨_,hc'⟩
   ·obtain⟨w2,z2⟩:=I.cell y c' e
    exact⟨w2,z2.sameBut hs hcc⟩
  ·obtain⟨e,n,ne,nf,d⟩:=I.pin p hp
   refine⟨(hs.2 p.1 ?_).trans e,n,ne,nf,d⟩
   intro q
   rw [q,hoc] at e
   have q':oc=p.2:=Option.some.inj e
   exact d w' (by rw [← q'];exact hocd)
theorem store_ok {M:Model} {A:Around} {E:Value->Shared->Prop} {i:Nat} {x:Str} {v:V} {u:Value} {Q:Unit->Shared->Prop} (I:Inv X pins σ H s) (hN:X.N.Nodup) (hi:X.N[i]?=some x) (hx:Loc X.env.scope x) (r:RelV v u)
  (h:∀s',Inv X pins (σ.set i (some v)) H s'->Q () s') (hf:X.fn x=true∨X.env.scope.names.lookup x=some .local:=by first | exact .inl rfl | exact .inr rfl | assumption):wpAny M A (storeName X.env x u) Q E s:=
 store_ok2 I hN hi hx r (fun s' I' _=>h s' I') hf
theorem Inv.call' {s':Shared} {ch:List Addr} (I:Inv X pins σ H s) (ho:s'.os=s.os) (u:Un (frs X.stack) ch H H' s.heap s'.heap) (hok:HOk X.prog X.w H' s'.heap) (hg:AllBare s'.gens)
  (hch:∀b∈ch,(b∈X.ex∨X.s₀.heap.objs.size<=b)∧b≠X.env.locals∧(∀x c,X.env.cells.lookup x=some c->c≠b)∧∀p∈X.pn++pins,p.1≠b):Inv X pins σ H' s':=by
 obtain⟨h',g',d',t',o'⟩:=s'
 have e:o'=s.os:=ho
 subst e
 exact I.call (g':=g') (t':=t') (d':=d') u hok hg hch
end
abbrev XK:=Value->Option Addr->Hp->Prop
abbrev St:=List (Option V)
abbrev VK:=V->Hp->Prop
abbrev TE:=St->Hp->VK->Prop
abbrev TT:=St->Hp->(Bool->Hp->Prop)->Prop
abbrev TA:=St->Hp->(List V->Hp->Prop)->Prop
structure Ends where
 nx:St->Hp->Prop
 rt:VK
 bk:St->Hp->Prop:=fun _ _=>False
 ct:St->Hp->Prop:=fun _ _=>False
abbrev TS:=Ends->St->Hp->Prop
def EP (X:Cx) (pins:List (Addr×Obj)) (σ:St) (Q:VK) (u:Value) (s':Shared):Prop:=∃v H',Inv X pins σ H' s'∧RelV v u∧Q v H'
def TP (X:Cx) (pins:List (Addr×Obj)) (σ:St) (Q:Bool->Hp->Prop) (b:Bool) (s':Shared):Prop:=∃H',Inv X pins σ H' s'∧Q b H'
def AP (X:Cx) (pins:List (Addr×Obj)) (σ:St) (Q:List V->Hp->Prop) (us:List Value) (s':Shared):Prop:=∃vs H',Inv X pins σ H' s'∧Vals vs us∧Q vs H'
def SP (X:Cx) (pins:List (Addr×Obj)) (D:Ends) (f:Flow) (s':Shared):Prop:=
 match f with
 | .next=>∃σ' H',Inv X pins σ' H' s'∧D.nx σ' H'
 | .brk=>∃σ' H',Inv X pins σ' H' s'∧D.bk σ' H'
 | .cont=>∃σ' H',Inv X pins σ' H' s'∧D.ct σ' H'
 | .ret u=>∃v σ' H',Inv X pins σ' H' s'∧RelV v u∧D.rt v H'
def PE (X:Cx) (e:Expr) (t:TE):Prop:=
 ∀(pins:List (Addr×Obj)) (s:Shared) (σ:St) (H:Hp) (Q:VK),Inv X pins σ H s->t σ H Q->wpAny (model X.prog X.w) X.A (eval e X.env) (EP X pins σ Q) X.xe s
def PT (X:Cx) (e:Expr) (t:TT):Prop:=
 ∀(pins:List (Addr×Obj)) (s:Shared) (σ:St) (H:Hp) (Q:Bool->Hp->Prop),Inv X pins σ H s->t σ H Q->wpAny (model X.prog X.w) X.A (isTrue e X.env (eval e X.env)) (TP X pins σ Q) X.xe s
def PW (X:Cx) (e:Expr) (t:TT):Prop:=
 ∀(whole:Sem Value) (pins:List (Addr×Obj)) (s:Shared) (σ:St) (H:Hp) (Q:Bool->Hp->Prop),Inv X pins σ H s->t σ H Q->wpAny (model X.prog X.w) X.A (isTrue e X.env whole) (TP X pins σ Q) X.xe s
theorem PW.pt {X:Cx} {e:Expr} {t:TT} (h:PW X e t):PT X e t:=h _
def PA (X:Cx) (es:List Expr) (t:TA):Prop:=
 ∀(pos:Pos) (pins:List (Addr×Obj)) (s:Shared) (σ:St) (H:Hp) (Q:List V->Hp->Prop),Inv X pins σ H s->t σ H Q->wpAny (model X.prog X.w) X.A (spliced (backTo pos (starEach es X.env))) (AP X pins σ Q) X.xe s
def PS (X:Cx) (st:Stmt) (t:TS):Prop:=
 ∀(pins:List (Addr×Obj)) (s:Shared) (σ:St) (H:Hp) (D:Ends),Inv X pins σ H s->t D σ H->wpAny (model X.prog X.w) X.A (exec st X.env) (SP X pins D) X.xe s
def PSs (X:Cx) (st:List Stmt) (t:TS):Prop:=
 ∀(pins:List (Addr×Obj)) (s:Shared) (σ:St) (H:Hp) (D:Ends),Inv X pins σ H s->t D σ H->wpAny (model X.prog X.w) X.A (execs st X.env) (SP X pins D) X.xe s
theorem thn {α:Type} {t:Sem α} {Q Q':α->Shared->Prop} {M:Model} {A:Around} {E:Value->Shared->Prop} {s:Shared} (h:wpAny M A t Q E s) (hQ:∀a s,Q a s->Q' a s):wpAny M A t Q' E s:=wpAny_mono h hQ fun _ _ x=>x
section
variable {X:Cx}
theorem bin {a b:Expr} {ta tb:TE} (ha:PE X a ta) (hb:PE X b tb) {pins:List (Addr×Obj)} {s:Shared} {σ:St} {H:Hp} {R:V->V->Hp->Prop} (I:Inv X pins σ H s) (h:ta σ H fun x H1=>tb σ H1 fun y H2=>R x y H2)
  {α:Type} {Q:α->Shared->Prop} {f:Value->Value->Sem α}
  (hf:∀v u s2 x y H2,Inv X pins σ H2 s2->RelV x v->RelV y u->R x y H2->wpAny (model X.prog X.w) X.A (f v u) Q X.xe s2):
  wpAny (model X.prog X.w) X.A (eval a X.env) (fun v s₁=>wpAny (model X.prog X.w) X.A (eval b X.env) (fun u s₂=>wpAny (model X.prog X.w) X.A (f v u) Q X.xe s₂) X.xe s₁) X.xe s:=by
 refine thn (ha pins s σ H _ I h) fun v s1 ⟨x,H1,I1,r1,q1⟩=>?_
 refine thn (hb pins s1 σ H1 _ I1 q1) fun u s2 ⟨y,H2,I2,r2,q2⟩=>?_
 exact hf v u s2 x y H2 I2 r1 r2 q2
def tVar (i:Nat):TE:=fun σ H Q=>∃v,σ[i]?=some (some v)∧Q v H
def tC (v:V):TE:=fun _ H Q=>Q v H
theorem pe_var {i:Nat} {x:Str} {pos:Pos} (hN:X.N[i]?=some x) (hv:Vis X.env.scope x) (hd:(x == ("__debug__" : Str))=false:=by decide) (hcd:(x == ("__classdict__" : Str))=false:=by decide):PE X (.Name x pos) (tVar i):=by
 intro pins s σ H Q I h
 obtain⟨v,e,h⟩:=h
 obtain⟨m,hn,hl⟩:=I.loc
 obtain⟨u,r,l⟩:=hl i x v hN e hv
 have fin:EP X pins σ Q u s:=⟨v,H,I,r,h⟩
 rcases l with ⟨hk,hm⟩ | ⟨hk,c,hc,hcell⟩
 ·exact wpAny_Name (wpAny_loadName_local I.ok.kind hk hn hm fin) hd
 ·rcases hk with hk | hk
  ·exact wpAny_Name (wpAny_loadName_cell I.ok.kind hk hc hcell fin) hd
  ·exact wpAny_Name (wpAny_loadName_free I.ok.kind hk hc hcell fin hcd) hd
theorem pe_int {i j pos}:PE X (.Constant (.int i) j pos) (tC (.int i)):=fun _ _ _ H _ I h=>wpAny_Constant_int ⟨.int i,H,I.tok _,⟨_,rfl⟩,h⟩
theorem pe_bl {b j pos}:PE X (.Constant (.bool b) j pos) (tC (.bl b)):=fun _ _ _ H _ I h=>Constant_bool ⟨.bl b,H,I,rfl,h⟩
theorem pe_non {j pos}:PE X (.Constant .none j pos) (tC .non):=fun _ _ _ H _ I h=>Constant_none ⟨.non,H,I,rfl,h⟩
theorem pe_str {x j pos}:PE X (.Constant (.str x) j pos) (tC (.str x)):=fun _ _ _ H _ I h=>Calls.Constant_str ⟨.str x,H,I.tok _,⟨_,rfl⟩,h⟩
def Gl (X:Cx) (x:Str):Prop:=X.env.kindOf x=some .globalImplicit
theorem ld_glob {E:Value->Shared->Prop} {pins:List (Addr×Obj)} {s:Shared} {σ:St} {H:Hp} {x:Str} {u:Value} {pos:Pos} {Q:Value->Shared->Prop} (I:Inv X pins σ H s) (hg:Gl X x) (hm:X.mg x=some u) (h:Q u s)
  (hd:(x == ("__debug__" : Str))=false:=by decide):wpAny (model X.prog X.w) X.A (eval (.Name x pos) X.env) Q E s:=
 Calls.Name_function_global I.ok.kind hg (Calls.loadGlobal_global (by rw [I.ok.glob];exact I.mod.glob.keeps I.bk) hm h) hd
theorem ld_blt {E:Value->Shared->Prop} {pins:List (Addr×Obj)} {s:Shared} {σ:St} {H:Hp} {x:Str} {u:Value} {pos:Pos} {Q:Value->Shared->Prop} (I:Inv X pins σ H s) (hg:Gl X x) (hm:X.mg x=none) (hv:bootBuiltins x=some u) (h:Q u s)
  (hn:x ≠ "__name__" := by decide) (hd:(x == ("__debug__" : Str))=false:=by decide):wpAny (model X.prog X.w) X.A (eval (.Name x pos) X.env) Q E s:=by
 obtain⟨mb,h1,h2⟩:=I.mod.blt
 exact Calls.Name_function_global I.ok.kind hg (Calls.loadGlobal_builtin (by rw [I.ok.glob];exact I.mod.glob.keeps I.bk) hm (by rw [I.ok.blt];exact h1.keeps I.bk) ((h2 x hn).trans hv) h) hd
theorem pe_glob {x:Str} {v:V} {u:Value} {pos:Pos} (hg:Gl X x) (hm:X.mg x=some u) (r:RelV v u) (hd:(x == ("__debug__" : Str))=false:=by decide):PE X (.Name x pos) (tC v):=
 fun _ _ _ H _ I h=>ld_glob I hg hm ⟨v,H,I,r,h⟩ hd
theorem pe_bltn {x:Str} {v:V} {u:Value} {pos:Pos} (hg:Gl X x) (hm:X.mg x=none) (hv:bootBuiltins x=some u) (r:RelV v u) (hn:x ≠ "__name__" := by decide) (hd:(x == ("__debug__" : Str))=false:=by decide):PE X (.Name x pos) (tC v):=
 fun _ _ _ H _ I h=>ld_blt I hg hm hv ⟨v,H,I,r,h⟩ hn hd
variable {a b:Expr} {ta tb:TE} {pos:Pos}
def PC (X:Cx) (op:CmpOp) (a b:Expr) (t:TE):Prop:=
 ∀(pins:List (Addr×Obj)) (s:Shared) (σ:St) (H:Hp) (Q:VK),Inv X pins σ H s->t σ H Q->
  wpAny (model X.prog X.w) X.A (eval a X.env) (fun v s₁=>wpAny (model X.prog X.w) X.A (eval b X.env) (fun u s₂=>wpAny (model X.prog X.w) X.A (compareOp op v u) (EP X pins σ Q) X.xe s₂) X.xe s₁) X.xe s
theorem nobehind (b:Expr) {op:CmpOp} (h:op≠.In) (h2:op≠.NotIn):behindInMarks op b=false:=by
 have e1:(op == CmpOp.In)=false:=by cases op <;> first | rfl | exact absurd rfl h
 have e2:(op == CmpOp.NotIn)=false:=by cases op <;> first | rfl | exact absurd rfl h2
 cases b <;> simp [behindInMarks,e1,e2]
def tB (t:TE):TT:=fun σ H Q=>t σ H fun x H1=>∃c,x=.bl c∧Q c H1
theorem pt_cmp {op:CmpOp} {t:TE} (h:PC X op a b t) (h1:behindInMarks op b=false:=by first | exact nobehind _ (by decide) (by decide) | rfl):PT X (.Compare a [op] [b] pos) (tB t):=by
 intro pins s σ H Q I hw
 refine wpAny_isTrue_Compare1 (thn (h pins s σ H _ I hw) fun v s1 h1=>thn h1 fun u s2 h2=>thn h2 fun c s3 ⟨x,H1,I1,r1,q1⟩=>?_) h1
 obtain⟨d,rfl,q⟩:=q1
 cases r1
 exact wpAny_truthy_bool ⟨H1,I1,q⟩
theorem pt_val {e:Expr} {t:TE} (h:PE X e t) (he:∀whole,isTrue e X.env whole=(do let v ← whole;standAt e.pos;holding [v] (truthy v)):=by intro _;rfl):PT X e (tB t):=by
 intro pins s σ H Q I hw
 refine isTrue_plain (thn (h pins s σ H _ I hw) fun v s1 ⟨x,H1,I1,r1,q1⟩=>?_) (he _)
 obtain⟨d,rfl,q⟩:=q1
 cases r1
 exact wpAny_truthy_bool ⟨H1,I1,q⟩
variable {tA tB':TT} {rest:List Expr}
def tAnd (t u:TT):TT:=fun σ H Q=>t σ H fun c H1=>if c=true then u σ H1 Q else Q false H1
def tOr (t u:TT):TT:=fun σ H Q=>t σ H fun c H1=>if c=true then Q true H1 else u σ H1 Q
def tNot (t:TT):TT:=fun σ H Q=>t σ H fun c H1=>Q (!c) H1
theorem pw_and1 (ha:PT X a tA):PW X (.BoolOp .And [a] pos) tA:=by
 intro wh pins s σ H Q I h
 refine isTrue_and (thn (ha pins s σ H Q I h) fun c s1 e=>?_)
 cases c with
 | true=>exact isTrue_and_nil e
 | false=>exact e
theorem pw_or1 (ha:PT X a tA):PW X (.BoolOp .Or [a] pos) tA:=by
 intro wh pins s σ H Q I h
 refine isTrue_or (thn (ha pins s σ H Q I h) fun c s1 e=>?_)
 cases c with
 | false=>exact isTrue_or_nil e
 | true=>exact e
theorem pw_and (ha:PT X a tA) (hb:PW X (.BoolOp .And (b :: rest) pos) tB'):PW X (.BoolOp .And (a :: b :: rest) pos) (tAnd tA tB'):=by
 intro wh pins s σ H Q I h
 refine isTrue_and (thn (ha pins s σ H _ I h) fun c s1 ⟨H1,I1,q1⟩=>?_)
 cases c with
 | true=>exact hb wh pins s1 σ H1 Q I1 q1
 | false=>exact⟨H1,I1,q1⟩
theorem pw_or (ha:PT X a tA) (hb:PW X (.BoolOp .Or (b :: rest) pos) tB'):PW X (.BoolOp .Or (a :: b :: rest) pos) (tOr tA tB'):=by
 intro wh pins s σ H Q I h
 refine isTrue_or (thn (ha pins s σ H _ I h) fun c s1 ⟨H1,I1,q1⟩=>?_)
 cases c with
 | true=>exact⟨H1,I1,q1⟩
 | false=>exact hb wh pins s1 σ H1 Q I1 q1
theorem pt_not (ha:PT X a tA):PT X (.UnaryOp .Not a pos) (tNot tA):=by
 intro pins s σ H Q I h
 exact isTrue_not (ha pins s σ H (fun c H1=>Q (!c) H1) I h)
def tAndV (ta tb:TE):TE:=fun σ H Q=>ta σ H fun x H1=>∃c,x=.bl c∧if c=true then tb σ H1 Q else Q (.bl false) H1
def tOrV (ta tb:TE):TE:=fun σ H Q=>ta σ H fun x H1=>∃c,x=.bl c∧if c=true then Q (.bl true) H1 else tb σ H1 Q
def tNotV (ta:TE):TE:=fun σ H Q=>ta σ H fun x H1=>∃c,x=.bl c∧Q (.bl (!c)) H1
theorem pe_one {op} {t:TE} (h:PE X a t):PE X (.BoolOp op [a] pos) t:=fun pins s σ H Q I hw=>BoolOp_one (h pins s σ H Q I hw)
theorem pe_and (ha:PE X a ta) (hb:PE X (.BoolOp .And (b :: rest) pos) tb):PE X (.BoolOp .And (a :: b :: rest) pos) (tAndV ta tb):=by
 intro pins s σ H Q I h
 refine BoolOp_and (thn (ha pins s σ H _ I h) fun v s1 ⟨x,H1,I1,r1,q1⟩=>?_)
 obtain⟨c,rfl,q1⟩:=q1
 cases r1
 refine wpAny_truthy_bool ?_
 cases c with
 | true=>exact hb pins s1 σ H1 Q I1 q1
 | false=>exact⟨.bl false,H1,I1,rfl,q1⟩
def tIf (t:TT) (ta tb:TE):TE:=fun σ H Q=>t σ H fun c H1=>if c=true then ta σ H1 Q else tb σ H1 Q
theorem pe_ifExp {c:Expr} (hc:PT X c tA) (ha:PE X a ta) (hb:PE X b tb):PE X (.IfExp c a b pos) (tIf tA ta tb):=by
 intro pins s σ H Q I h
 refine wpAny_IfExp (thn (hc pins s σ H _ I h) fun d s1 ⟨H1,I1,q1⟩=>?_)
 cases d with
 | true=>exact ha pins s1 σ H1 Q I1 q1
 | false=>exact hb pins s1 σ H1 Q I1 q1
end
def SqL (K:W.Frag) (H:Hp) (a:Addr) (xs:List V):Prop:=
 Rd H a (.lst xs)∨
  ∃(o:Obj) (its:Array Value) (n:Nat),K.lookup a=some o∧o.cls=.type "list" ∧ o.dict=none∧o.data=.seq its n∧its.size<=sizeLine∧Vals xs its.toList
def SqT (K:W.Frag) (H:Hp) (a:Addr) (xs:List V):Prop:=
 Rd H a (.tup xs)∨
  ∃(o:Obj) (its:Array Value) (n:Nat),K.lookup a=some o∧o.cls=.type "tuple" ∧ o.data=.seq its n∧its.size<=sizeLine∧Vals xs its.toList
def absV:Value->Option V
 | .none=>some .non
 | .bool b=>some (.bl b)
 | .int i _=>some (.int i)
 | .str x _=>some (.str x)
 | .bytes b _=>some (.byt b)
 | .float b _=>some (.flt b)
 | .ref a=>some (.ref a)
 | .type n=>some (.ty n)
 | _=>none
theorem RelV.abs {x:V} {u:Value} (r:RelV x u):absV u=some x:=by
 cases x with
 | non=>cases r;rfl
 | bl _=>cases r;rfl
 | int _=>obtain⟨t,rfl⟩:=r;rfl
 | str _=>obtain⟨t,rfl⟩:=r;rfl
 | byt _=>obtain⟨t,rfl⟩:=r;rfl
 | flt _=>obtain⟨t,rfl⟩:=r;rfl
 | ref _=>cases r;rfl
 | ty _=>cases r;rfl
theorem RelV.inj {x y:V} {u:Value} (r:RelV x u) (q:RelV y u):x=y:=Option.some.inj (r.abs.symm.trans q.abs)
theorem Vals.inj:∀{xs ys:List V} {us:List Value},Vals xs us->Vals ys us->xs=ys
 | _,_,_,.nil,.nil=>rfl
 | _,_,_,.cons r t,.cons r' t'=>by rw [r.inj r',Vals.inj t t']
section
variable {X:Cx} {pins:List (Addr×Obj)} {σ:St} {H:Hp} {s:Shared} {a:Addr} {xs ys:List V}
theorem SqL.of {K:W.Frag} (h:H a=some (.lst xs)):SqL K H a xs:=.inl (.inl h)
theorem SqT.of {K:W.Frag} (h:H a=some (.tup xs)):SqT K H a xs:=.inl (.inl h)
theorem Inv.list (I:Inv X pins σ H s) (h:SqL X.K H a xs):∃its:List Value,Vals xs its∧PlainL s.heap a its.toArray∧xs.length<=sizeLine:=by
 rcases h with h | ⟨o,its,n,hk,hc,hd,hs,hz,r⟩
 ·obtain⟨z,its,n,r,e⟩:=h.ok I.hok
  exact⟨its,r,⟨_,n,e,rfl,rfl,rfl⟩,z⟩
 ·refine⟨its.toList,r,⟨o,n,I.kIn a o hk,hc,hd,by simpa using hs⟩,?_⟩
  have e:=r.length
  simp only [Array.length_toList] at e
  omega
theorem Inv.tuple (I:Inv X pins σ H s) (h:SqT X.K H a xs):∃its:List Value,Vals xs its∧IsTup s.heap a its.toArray∧xs.length<=sizeLine:=by
 rcases h with h | ⟨o,its,n,hk,hc,hs,hz,r⟩
 ·obtain⟨z,its,r,p⟩:=h.ok I.hok
  exact⟨its,r,p,z⟩
 ·refine⟨its.toList,r,⟨o,I.kIn a o hk,hc,n,by simpa using hs⟩,?_⟩
  have e:=r.length
  simp only [Array.length_toList] at e
  omega
theorem Inv.list_inj (I:Inv X pins σ H s) (h:SqL X.K H a xs) (h':SqL X.K H a ys):xs=ys:=by
 obtain⟨its,r,⟨o,n,e,_,_,d⟩,_⟩:=I.list h
 obtain⟨its',r',⟨o',n',e',_,_,d'⟩,_⟩:=I.list h'
 rw [e] at e';cases e'
 rw [d] at d'
 injection d' with d1 _
 have:its=its':=by simpa using congrArg Array.toList d1
 subst this
 exact r.inj r'
theorem Inv.tuple_inj (I:Inv X pins σ H s) (h:SqT X.K H a xs) (h':SqT X.K H a ys):xs=ys:=by
 obtain⟨its,r,⟨o,e,_,n,d⟩,_⟩:=I.tuple h
 obtain⟨its',r',⟨o',e',_,n',d'⟩,_⟩:=I.tuple h'
 rw [e] at e';cases e'
 rw [d] at d'
 injection d' with d1 _
 have:its=its':=by simpa using congrArg Array.toList d1
 subst this
 exact r.inj r'
end
abbrev Cx.wish (X:Cx) (E:Value->Shared->Prop):Cx:={ X with xe:=E }
abbrev Cx.nox (X:Cx):Cx:=X.wish fun _ _=>False
theorem Cx.Ok.wish {X:Cx} (ok:X.Ok) (E:Value->Shared->Prop):(X.wish E).Ok:=
 ⟨ok.mod,ok.kind,ok.glob,ok.blt,ok.above,ok.inj,ok.has,ok.cab,ok.hd,ok.frames,ok.stk,ok.exf,ok.bs,ok.bsz,ok.noex,ok.exfs,ok.funs,ok.frf⟩
theorem Cx.Ok.unwish {X:Cx} {E:Value->Shared->Prop} (ok:(X.wish E).Ok):X.Ok:=
 ⟨ok.mod,ok.kind,ok.glob,ok.blt,ok.above,ok.inj,ok.has,ok.cab,ok.hd,ok.frames,ok.stk,ok.exf,ok.bs,ok.bsz,ok.noex,ok.exfs,ok.funs,ok.frf⟩
section
variable {X:Cx} {pins:List (Addr×Obj)} {σ:St} {H:Hp} {s:Shared} {E:Value->Shared->Prop}
theorem Inv.wish (I:Inv X pins σ H s) (E:Value->Shared->Prop):Inv (X.wish E) pins σ H s:=⟨I.ok.wish E,I.os,I.bare,I.base,I.loc,I.cell,I.free,I.freeC,I.pin,I.hok,I.len⟩
theorem Inv.unwish (I:Inv (X.wish E) pins σ H s):Inv X pins σ H s:=⟨I.ok.unwish,I.os,I.bare,I.base,I.loc,I.cell,I.free,I.freeC,I.pin,I.hok,I.len⟩
theorem SP.unwish {D:Ends} {f:Flow} {s':Shared} (h:SP (X.wish E) pins D f s'):SP X pins D f s':=by
 cases f with
 | next=>obtain⟨σ',H',I,q⟩:=h;exact⟨σ',H',I.unwish,q⟩
 | brk=>obtain⟨σ',H',I,q⟩:=h;exact⟨σ',H',I.unwish,q⟩
 | cont=>obtain⟨σ',H',I,q⟩:=h;exact⟨σ',H',I.unwish,q⟩
 | ret u=>obtain⟨v,σ',H',I,r,q⟩:=h;exact⟨v,σ',H',I.unwish,r,q⟩
theorem PT.nox {e:Expr} {t:TT} (h:PT X.nox e t):PT X e t:=fun pins s σ H Q I hw=>
 wpAny_mono (h pins s σ H Q (I.wish _) hw) (fun _ _ ⟨H',I',q⟩=>⟨H',I'.unwish,q⟩) fun _ _ z=>False.elim z
theorem PSs.nox {st:List Stmt} {t:TS} (h:PSs X.nox st t):PSs X st t:=fun pins s σ H D I hw=>
 wpAny_mono (h pins s σ H D (I.wish _) hw) (fun _ _ q=>q.unwish) fun _ _ z=>False.elim z
end
section
variable {X:Cx} {st:Stmt} {rest:List Stmt} {t u:TS} {e:Expr} {te:TE} {pos:Pos}
def tNext:TS:=fun D σ H=>D.nx σ H
def tSeq (t u:TS):TS:=fun D σ H=>t { D with nx:=u D } σ H
theorem pss_nil:PSs X [] tNext:=fun _ _ σ H _ I h=>wpAny_execs_nil ⟨σ,H,I,h⟩
theorem pss_cons (h1:PS X st t) (h2:PSs X rest u):PSs X (st :: rest) (tSeq t u):=by
 intro pins s σ H D I h
 refine wpAny_execs_cons (thn (h1 pins s σ H { D with nx:=u D } I h) fun f s1 q=>?_)
 cases f with
 | next=>
  obtain⟨σ',H',I',q⟩:=q
  exact h2 pins s1 σ' H' D I' q
 | ret v=>exact q
 | brk=>exact q
 | cont=>exact q
theorem pss_one (h1:PS X st t):PSs X [st] t:=by
 intro pins s σ H D I h
 refine wpAny_execs_cons (thn (h1 pins s σ H D I h) fun f s1 q=>?_)
 cases f with
 | next=>exact wpAny_execs_nil q
 | ret v=>exact q
 | brk=>exact q
 | cont=>exact q
def tBreak:TS:=fun D σ H=>D.bk σ H
def tCont:TS:=fun D σ H=>D.ct σ H
theorem ps_continue:PS X (.Continue pos) tCont:=fun _ _ σ H _ I h=>wpAny_Continue ⟨σ,H,I,h⟩
theorem Inv.quiet {pins:List (Addr×Obj)} {σ:St} {H:Hp} {s:Shared} (I:Inv X pins σ H s):interactive X.env=false:=by simp [interactive,I.ok.kind]
def tDrop (te:TE):TS:=fun D σ H=>te σ H fun _ H1=>D.nx σ H1
theorem ps_expr (he:PE X e te) (hs:swapsWith e none pos.line X.env=pure false:=by rfl):PS X (.Expr e pos) (tDrop te):=by
 intro pins s σ H D I h
 exact wpAny_Expr_any (thn (he pins s σ H _ I h) fun v s1 ⟨x,H1,I1,r1,q1⟩=>⟨σ,H1,I1,q1⟩) I.quiet hs
def tRet (te:TE):TS:=fun D σ H=>te σ H D.rt
theorem ps_ret (he:PE X e te):PS X (.Return (some e) pos) (tRet te):=by
 intro pins s σ H D I h
 exact wpAny_Return_some (thn (he pins s σ H _ I h) fun v s1 ⟨x,H1,I1,r1,q1⟩=>⟨x,σ,H1,I1,r1,q1⟩)
def tRetN:TS:=fun D _ H=>D.rt .non H
def tIfS (c:TT) (t u:TS):TS:=fun D σ H=>c σ H fun b H1=>if b=true then t D σ H1 else u D σ H1
theorem ps_if {c:Expr} {a b:List Stmt} {tc:TT} (hc:PT X c tc) (ha:PSs X a t) (hb:PSs X b u):PS X (.If c a b pos) (tIfS tc t u):=by
 intro pins s σ H D I h
 refine wpAny_If (thn (hc pins s σ H _ I h) fun d s1 ⟨H1,I1,q1⟩=>?_)
 cases d with
 | true=>exact ha pins s1 σ H1 D I1 q1
 | false=>exact hb pins s1 σ H1 D I1 q1
def tNever:TS:=fun _ _ _=>False
theorem pss_never {sts:List Stmt}:PSs X sts tNever:=fun _ _ _ _ _ _ h=>h.elim
end
abbrev TG:=V->St->Hp->(St->Hp->Prop)->Prop
abbrev TGs:=List V->St->Hp->(St->Hp->Prop)->Prop
def PG (X:Cx) (target:Expr) (t:TG):Prop:=
 ∀(pins:List (Addr×Obj)) (s:Shared) (σ:St) (H:Hp) (v:V) (u:Value) (Q:St->Hp->Prop),Inv X pins σ H s->RelV v u->t v σ H Q->
  wpAny (model X.prog X.w) X.A (assign target X.env u) (fun _ s'=>∃σ' H',Inv X pins σ' H' s'∧Q σ' H') X.xe s
def PGs (X:Cx) (ts:List Expr) (t:TGs):Prop:=
 ∀(pins:List (Addr×Obj)) (s:Shared) (σ:St) (H:Hp) (vs:List V) (us:List Value) (Q:St->Hp->Prop),Inv X pins σ H s->Vals vs us->t vs σ H Q->
  wpAny (model X.prog X.w) X.A (assignInOrder ((assignEach ts X.env).map (·.2)) us) (fun _ s'=>∃σ' H',Inv X pins σ' H' s'∧Q σ' H') X.xe s
abbrev TSet:=V->V->V->Hp->(Hp->Prop)->Prop
def PSet (X:Cx) (t:TSet):Prop:=
 ∀(pins:List (Addr×Obj)) (s:Shared) (σ:St) (H:Hp) (o i v:V) (ov iv u:Value) (Q:Hp->Prop),Inv X pins σ H s->RelV o ov->RelV i iv->RelV v u->t o i v H Q->
  wpAny (model X.prog X.w) X.A (setItem ov iv u) (fun _ s'=>∃H',Inv X pins σ H' s'∧Q H') X.xe s
abbrev TIp:=V->V->Hp->VK->Prop
def PIp (X:Cx) (op:Operator) (t:TIp):Prop:=
 ∀(pins:List (Addr×Obj)) (s:Shared) (σ:St) (H:Hp) (x y:V) (v u:Value) (Q:VK),Inv X pins σ H s->RelV x v->RelV y u->t x y H Q->
  wpAny (model X.prog X.w) X.A (inplaceOp op v u) (EP X pins σ Q) X.xe s
section
variable {X:Cx} {pos:Pos}
def gName (i:Nat):TG:=fun v σ H Q=>Q (σ.set i (some v)) H
theorem pg_name {i:Nat} {x:Str} (hN:X.N.Nodup) (hi:X.N[i]?=some x) (hx:Loc X.env.scope x) (hf:X.fn x=true∨X.env.scope.names.lookup x=some .local:=by first | exact .inl rfl | exact .inr rfl | assumption):PG X (.Name x pos) (gName i):=by
 intro pins s σ H v u Q I r h
 exact wpAny_assign_Name (store_ok I hN hi hx r (fun s' I'=>⟨_,H,I',h⟩) hf)
def gNil:TGs:=fun vs σ H Q=>vs=[]∧Q σ H
def gCons (t:TG) (u:TGs):TGs:=fun vs σ H Q=>∃v r,vs=v :: r∧t v σ H fun σ' H'=>u r σ' H' Q
theorem pgs_nil:PGs X [] gNil:=by
 intro pins s σ H vs us Q I r h
 obtain⟨e,h⟩:=h
 subst e
 cases r
 exact assignInOrder_nil ⟨σ,H,I,h⟩
theorem pgs_cons {e:Expr} {es:List Expr} {t:TG} {u:TGs} (h1:PG X e t) (h2:PGs X es u)
  (hs:(assignEach (e :: es) X.env).map (·.2)=assign e X.env :: (assignEach es X.env).map (·.2):=by rfl):PGs X (e :: es) (gCons t u):=by
 intro pins s σ H vs us Q I r h
 obtain⟨v,vr,e1,h⟩:=h
 subst e1
 cases r with
 | cons r rr=>
  rw [hs]
  refine assignInOrder_cons (thn (h1 pins s σ H _ _ _ I r h) fun _ s1 ⟨σ1,H1,I1,q1⟩=>?_)
  exact h2 pins s1 σ1 H1 _ _ Q I1 rr q1
def gTup (K:W.Frag) (n:Nat) (t:TGs):TG:=fun v σ H Q=>∃a xs,v=.ref a∧SqT K H a xs∧xs.length=n∧t xs σ H Q
theorem pg_tup {es:List Expr} {k:Nat} {t:TGs} {n:Nat} (hc:X.calm=true) (h:PGs X es t)
  (hn:(assignEach es X.env).length=n:=by rfl) (hst:(assignEach es X.env).findIdx? (·.1)=none:=by rfl):PG X (.Tuple es k pos) (gTup X.K n t):=by
 intro pins s σ H v u Q I r hw
 obtain⟨a,xs,e1,hq,hl,hw⟩:=hw
 subst e1
 cases r
 obtain⟨its,rv,ht,hz⟩:=I.tuple hq
 refine assign_Tuple_tuple (I.ok.hd hc) ht (by simp [hn,← hl,rv.length]) hst fun h' hx=>?_
 have I1:Inv X pins σ H { s with heap:=h' }:=I.kept (t':=s.toks) fun b o e=>hx b o (Nat.ne_of_lt (Heap.lt_size e)) e
 exact h pins _ σ H xs _ Q I1 (by simpa using rv) hw
def gSub (to ti:TE) (t:TSet):TG:=fun v σ H Q=>to σ H fun o H1=>ti σ H1 fun i H2=>t o i v H2 fun H3=>Q σ H3
theorem pg_sub {o i:Expr} {to ti:TE} {t:TSet} (ho:PE X o to) (hi:PE X i ti) (hs:PSet X t)
  (ha:∀v,assign (.Subscript o i pos) X.env v=(do
   let ov ← holding [v] (eval o X.env)
   let iv ← holding [v,ov] (eval i X.env)
   standAt pos
   holding [v,ov,iv] (setItem ov iv v)
   release [v,ov,iv] []):=by intro _;rfl):PG X (.Subscript o i pos) (gSub to ti t):=by
 intro pins s σ H v u Q I r h
 rw [ha]
 refine wpAny_bind (wpAny_holding (thn (ho pins s σ H _ I h) fun ov s1 ⟨x,H1,I1,r1,q1⟩=>?_))
 refine wpAny_bind (wpAny_holding (thn (hi pins s1 σ H1 _ I1 q1) fun iv s2 ⟨y,H2,I2,r2,q2⟩=>?_))
 refine wpAny_bind (wpAny_standAt (wpAny_bind (wpAny_holding (thn (hs pins s2 σ H2 x y v ov iv u _ I2 r1 r2 r q2) fun _ s3 ⟨H3,I3,q3⟩=>?_))))
 exact wpAny_release ⟨σ,H3,I3,q3⟩
def tAsg (te:TE) (g:TG):TS:=fun D σ H=>te σ H fun x H1=>g x σ H1 D.nx
theorem ps_asg {tg e:Expr} {te:TE} {g:TG} (he:PE X e te) (hg:PG X tg g) (hs:swapsWithSole [tg] e pos.line X.env=pure false:=by rfl) (hw:swappedStores [tg] e X.env=pure none:=by rfl)
  (h1:(assignEach [tg] X.env).map (·.2)=[assign tg X.env]:=by rfl):PS X (.Assign [tg] e pos) (tAsg te g):=by
 intro pins s σ H D I h
 refine wpAny_Assign_stores (thn (he pins s σ H _ I h) fun v s1 ⟨x,H1,I1,r1,q1⟩=>?_) hs hw
 rw [h1]
 exact thn (hg pins s1 σ H1 x v _ I1 r1 q1) fun _ s2 q=>q
theorem ps_set {i:Nat} {x:Str} {e:Expr} {te:TE} {pos':Pos} (hN:X.N.Nodup) (hi:X.N[i]?=some x) (hx:Loc X.env.scope x) (he:PE X e te) (hs:swapsWith e (some (.Name x pos')) pos.line X.env=pure false:=by rfl) (hf:X.fn x=true∨X.env.scope.names.lookup x=some .local:=by first | exact .inl rfl | exact .inr rfl | assumption):
  PS X (.Assign [.Name x pos'] e pos) (tAsg te (gName i)):=by
 intro pins s σ H D I h
 refine wpAny_Assign_Name (thn (he pins s σ H _ I h) fun v s1 ⟨y,H1,I1,r1,q1⟩=>?_) hs
 exact store_ok I1 hN hi hx r1 (fun s2 I2=>⟨_,H1,I2,q1⟩) hf
def tAug (i:Nat) (te:TE) (ti:TIp):TS:=fun D σ H=>∃x,σ[i]?=some (some x)∧te σ H fun y H1=>ti x y H1 fun z H2=>D.nx (σ.set i (some z)) H2
theorem ps_aug {i:Nat} {x:Str} {e:Expr} {te:TE} {op:Operator} {ti:TIp} {pos':Pos} (hN:X.N.Nodup) (hi:X.N[i]?=some x) (hx:Loc X.env.scope x) (he:PE X e te) (ho:PIp X op ti) (hf:X.fn x=true∨X.env.scope.names.lookup x=some .local:=by first | exact .inl rfl | exact .inr rfl | assumption):
  PS X (.AugAssign (.Name x pos') op e pos) (tAug i te ti):=by
 intro pins s σ H D I h
 obtain⟨v,e1,h⟩:=h
 obtain⟨m,hn,hl⟩:=I.loc
 have vis:Vis X.env.scope x:=by rcases hx with k | k;exact .inl k;exact .inr (.inl k)
 obtain⟨u,r,l⟩:=hl i x v hi e1 vis
 refine wpAny_AugAssign_Name ?_
 have go:wpAny (model X.prog X.w) X.A (eval e X.env) (fun w s₂=>wpAny (model X.prog X.w) X.A (inplaceOp op u w) (fun r s₃=>wpAny (model X.prog X.w) X.A (storeName X.env x r) (fun _=>SP X pins D .next) X.xe s₃) X.xe s₂) X.xe s:=by
  refine thn (he pins s σ H _ I h) fun w s1 ⟨y,H1,I1,r1,q1⟩=>?_
  refine thn (ho pins s1 σ H1 v y u w _ I1 r r1 q1) fun z s2 ⟨zv,H2,I2,r2,q2⟩=>?_
  exact store_ok I2 hN hi hx r2 (fun s3 I3=>⟨_,H2,I3,q2⟩) hf
 rcases l with ⟨hk,hm⟩ | ⟨hk,c,hc,hcell⟩
 ·exact wpAny_loadName_local I.ok.kind hk hn hm go
 ·rcases hk with hk | hk
  ·exact wpAny_loadName_cell I.ok.kind hk hc hcell go
  ·rcases hx with k | k
   ·have:X.env.scope.names.lookup x=some .free:=hk
    rw [k] at this;cases this
   ·have:X.env.scope.names.lookup x=some .free:=hk
    rw [k] at this;cases this
def tAugS (to ti te:TE) (tget:V->V->Hp->VK->Prop) (tip:TIp) (tset:TSet):TS:=fun D σ H=>to σ H fun o H1=>ti σ H1 fun i H2=>tget o i H2 fun x H3=>te σ H3 fun y H4=>tip x y H4 fun z H5=>tset o i z H5 fun H6=>D.nx σ H6
def ipI (f:Int->Int->Int):TIp:=fun x y H Q=>∃i j,x=.int i∧y=.int j∧Q (.int (f i j)) H
end
section
variable {X:Cx} {pos:Pos}
def tWhile (c:TT) (tb:TS):TS:=fun D σ H=>∃W:Nat->St->Hp->Prop,(∃m,W m σ H)∧∀m σ H,W m σ H->
 c σ H fun b H1=>if b=true then ∃N:St->Hp->Prop,(∀σ' H',N σ' H'->∃m',m' < m∧W m' σ' H')∧tb { D with nx:=N,ct:=N,bk:=D.nx } σ H1 else D.nx σ H1
theorem ps_while {c:Expr} {body:List Stmt} {tc:TT} {tb:TS} (hp:PassesOwn (model X.prog X.w) X.A X.env X.xe) (hc:PT X c tc) (hb:PSs X body tb):PS X (.While c body [] pos) (tWhile tc tb):=by
 intro pins s σ H D I h
 obtain⟨W,⟨m0,w0⟩,turn⟩:=h
 refine wpAny_While (codeAny_whileLoop (fun n s'=>∃σ' H',Inv X pins σ' H' s'∧W n σ' H') ?_ m0 ⟨σ,H,I,w0⟩)
 rintro n s1 ⟨σ1,H1,I1,w1⟩
 refine wpAny_passesOwn hp (thn (hc pins s1 σ1 H1 _ I1 (turn n σ1 H1 w1)) fun b s2 ⟨H2,I2,q2⟩=>?_)
 cases b with
 | true=>
  obtain⟨N,hN,q2⟩:=q2
  rw [if_pos rfl]
  refine wpAny_passesOwn hp (thn (hb pins s2 σ1 H2 _ I2 q2) fun f s3 q3=>?_)
  cases f with
  | next=>
   obtain⟨σ3,H3,I3,n3⟩:=q3
   obtain⟨m',hm,w3⟩:=hN σ3 H3 n3
   exact⟨m',hm,σ3,H3,I3,w3⟩
  | cont=>
   obtain⟨σ3,H3,I3,n3⟩:=q3
   obtain⟨m',hm,w3⟩:=hN σ3 H3 n3
   exact⟨m',hm,σ3,H3,I3,w3⟩
  | brk=>exact q3
  | ret v=>exact q3
 | false=>
  rw [if_neg Bool.false_ne_true]
  exact wpAny_execs_nil ⟨σ1,H2,I2,q2⟩
end
structure It where
 go:Nat->Hp->Prop
 yld:Nat->Hp->V->Hp->Prop
 stop:Nat->Hp->Prop
def FpOk (X:Cx) (pins:List (Addr×Obj)) (H:Hp) (b:Addr):Prop:=
 H b=none∧b≠X.env.locals∧b∉X.fs∧(b∈X.ex∨X.s₀.heap.objs.size<=b)∧(∀x c,X.env.cells.lookup x=some c->c≠b)∧∀p∈X.pn++pins,p.1≠b
theorem Inv.fpOk {X:Cx} {pins:List (Addr×Obj)} {σ:St} {H H':Hp} {s:Shared} {b:Addr} (I:Inv X pins σ H s) (hb:s.heap.objs.size<=b) (hn:H' b=none):FpOk X pins H' b:=by
 refine⟨hn,Nat.ne_of_gt (Nat.lt_of_lt_of_le I.lt hb),I.nofs hb,.inr (Nat.le_trans I.sz hb),fun x c e z=>?_,fun p hp z=>?_⟩
 ·obtain⟨v,q⟩:=I.cell x c e
  exact absurd (Nat.lt_of_lt_of_le q.lt (by rw [z];exact hb)) (Nat.lt_irrefl _)
 ·exact absurd (Nat.lt_of_lt_of_le (Heap.lt_size (I.pin p hp).1) (by rw [z];exact hb)) (Nat.lt_irrefl _)
structure Turn (P:Program) (w:World) (K:W.Frag) (tg:Expr) (J:It) (fp:List Addr) (it:Addr) (tn:Nat->Heap->Prop):Prop where
 mem:it∈fp
 obj:∀i h,tn i h->∀b∈fp,∃o,h.get? b=some o∧∀v,o.data≠.cell v
 keep:∀i h h',tn i h->(∀b∈fp,∀o,h.get? b=some o->h'.get? b=some o)->tn i h'
 item:∀(X:Cx),X.prog=P->X.w=w->X.K=K->X.calm=true->∀(i:Nat) (pins:List (Addr×Obj)) (s:Shared) (σ:St) (H:Hp) (E:Value->Shared->Prop),Inv X pins σ H s->(∀b∈fp,FpOk X pins H b)->tn i s.heap->J.go i H->
  wpAny (model P w) X.A (pyNext (.ref it)) (fun r s1=>∃u,r=some u∧
   wpAny (model P w) X.A (letOwnedTupleGo tg (.ref it) u) (fun _ s2=>∃x H',Inv X pins σ H' s2∧RelV x u∧J.yld i H x H'∧tn (i+1) s2.heap∧∀b∈fp,H' b=none) E s1) E s
 done:∀(X:Cx),X.prog=P->X.w=w->X.K=K->X.calm=true->∀(i:Nat) (pins:List (Addr×Obj)) (s:Shared) (σ:St) (H:Hp) (E:Value->Shared->Prop),Inv X pins σ H s->(∀b∈fp,FpOk X pins H b)->tn i s.heap->J.stop i H->
  wpAny (model P w) X.A (pyNext (.ref it)) (fun r s1=>r=none∧Inv X pins σ H s1) E s
 self:∀(A:Around) (i:Nat) (s:Shared) (Q:Value->Shared->Prop) (E:Value->Shared->Prop),tn i s.heap->Q (.ref it) s->wpAny (model P w) A (pyIter (.ref it)) Q E s
abbrev TI:=St->Hp->(It->Hp->Prop)->Prop
def PIE (X:Cx) (pins:List (Addr×Obj)) (σ:St) (tg:Expr) (R:It->Hp->Prop) (itv:Value) (s2:Shared):Prop:=
 ∃(it:Addr) (fp:List Addr) (tn:Nat->Heap->Prop) (J:It) (H':Hp),itv=.ref it∧Inv X pins σ H' s2∧Turn X.prog X.w X.K tg J fp it tn∧tn 0 s2.heap∧(∀b∈fp,FpOk X pins H' b)∧R J H'
def PI (X:Cx) (tg iter:Expr) (wi:TI):Prop:=
 ∀(pins:List (Addr×Obj)) (s:Shared) (σ:St) (H:Hp) (R:It->Hp->Prop),Inv X pins σ H s->wi σ H R->
  wpAny (model X.prog X.w) X.A (eval iter X.env) (fun v s1=>wpAny (model X.prog X.w) X.A (pyIter v) (PIE X pins σ tg R) X.xe s1) X.xe s
theorem go_of {M:Model} {A:Around} {E:Value->Shared->Prop} {s:Shared} {tg:Expr} {it:Addr} {u:Value} {o:Obj} {n:String} {vs:Array Value} {Q:Unit->Shared->Prop} (ho:s.heap.get? it=some o) (hc:o.cls=.type n) (hd:o.data=.fields vs)
  (hn:["enumerate","zip","dict_itemiterator","dict_reverseitemiterator","odict_iterator","itertools.zip_longest","itertools.pairwise"].contains n=false) (hQ:Q () s):wpAny M A (letOwnedTupleGo tg (.ref it) u) Q E s:=by
 unfold letOwnedTupleGo
 cases tg <;> first
  | exact wpAny_pure hQ
  |(cases u <;> first
    | exact wpAny_pure hQ
    |(refine wpAny_bind (wpAny_load ho ?_)
      rw [hc,hd]
      show wpAny M A (if (["enumerate","zip","dict_itemiterator","dict_reverseitemiterator","odict_iterator","itertools.zip_longest","itertools.pairwise"].contains n && vs[0]? == some (rawInt _))=true then _ else _) Q E s
      rw [if_neg (by intro h;rw [hn,Bool.false_and] at h;cases h)]
      exact wpAny_pure hQ))
def Itl (K:W.Frag) (a:Addr):It:=
 ⟨fun i H=>∃xs x,SqL K H a xs∧xs[i]?=some x,fun i H x H'=>H'=H∧∀xs,SqL K H a xs->xs[i]?=some x,fun i H=>∃xs,SqL K H a xs∧xs.length<=i⟩
def Itt (K:W.Frag) (a:Addr):It:=
 ⟨fun i H=>∃xs x,SqT K H a xs∧xs[i]?=some x,fun i H x H'=>H'=H∧∀xs,SqT K H a xs->xs[i]?=some x,fun i H=>∃xs,SqT K H a xs∧xs.length<=i⟩
def Itr (lo:Int) (n:Nat):It:=⟨fun i _=>i < n,fun i H x H'=>H'=H∧x=.int (lo+i),fun i _=>n<=i⟩
theorem turn_list {P:Program} {w:World} {K:W.Frag} {tg:Expr} (a it:Addr):Turn P w K tg (Itl K a) [it] it (fun i h=>h.IsListIter it a i) where
 mem:=by simp
 obj:=fun i h st b hb=>by
  have e:b=it:=by simpa using hb
  subst e
  obtain⟨o,e,c,d⟩:=st
  exact⟨o,e,fun v z=>by rw [d] at z;cases z⟩
 keep:=fun i h h' st k=>st.at fun o e=>k it (by simp) o e
 item:=by
  intro X hP hw hK hc i pins s σ H E I hf st hg
  subst hP hw hK
  obtain⟨xs,x,hq,hx⟩:=hg
  obtain⟨its,rv,p,hz⟩:=I.list hq
  obtain⟨u,hu,ru⟩:=rv.get hx
  obtain⟨f0,f1,f2,f3,f4,f5⟩:=hf it (by simp)
  refine wpAny_pyNext_list_item st p.isList (x:=u) (by simpa using hu) fun h' st' sb=>?_
  have I1:Inv X pins σ H { s with heap:=h' }:=I.turned (t':=s.toks) (fun b o hb e=>(sb.2 b hb).trans e) f0 f1 f3 f4 f5
  obtain⟨o,e,c,d⟩:=id st'
  exact⟨u,rfl,go_of (s:={ s with heap:=h' }) e c d (by decide) ⟨x,H,I1,ru,⟨rfl,fun ys hy=>by rw [I.list_inj hy hq];exact hx⟩,st',fun b hb=>(hf b hb).1⟩⟩
 done:=by
  intro X hP hw hK hc i pins s σ H E I hf st hg
  subst hP hw hK
  obtain⟨xs,hq,hx⟩:=hg
  obtain⟨its,rv,p,hz⟩:=I.list hq
  obtain⟨f0,f1,f2,f3,f4,f5⟩:=hf it (by simp)
  have hl:=rv.length
  exact wpAny_pyNext_list_end (I.ok.hd hc) st p.isList (by simp;omega) fun h' eb=>⟨rfl,I.turned (t':=s.toks) (fun b o hb e=>eb b o hb e) f0 f1 f3 f4 f5⟩
 self:=fun _ _ _ _ _ st h=>wpAny_pyIter_listiter st h
theorem turn_tuple {P:Program} {w:World} {K:W.Frag} {tg:Expr} (a it:Addr):Turn P w K tg (Itt K a) [it] it (fun i h=>h.IsTupleIter it a i) where
 mem:=by simp
 obj:=fun i h st b hb=>by
  have e:b=it:=by simpa using hb
  subst e
  obtain⟨o,e,c,d⟩:=st
  exact⟨o,e,fun v z=>by rw [d] at z;cases z⟩
 keep:=fun i h h' st k=>st.at fun o e=>k it (by simp) o e
 item:=by
  intro X hP hw hK hc i pins s σ H E I hf st hg
  subst hP hw hK
  obtain⟨xs,x,hq,hx⟩:=hg
  obtain⟨its,rv,p,hz⟩:=I.tuple hq
  obtain⟨u,hu,ru⟩:=rv.get hx
  obtain⟨f0,f1,f2,f3,f4,f5⟩:=hf it (by simp)
  refine wpAny_pyNext_tuple_item st (show s.heap.IsTuple a its.toArray from p) (x:=u) (by simpa using hu) fun h' st' sb=>?_
  have I1:Inv X pins σ H { s with heap:=h' }:=I.turned (t':=s.toks) (fun b o hb e=>(sb.2 b hb).trans e) f0 f1 f3 f4 f5
  obtain⟨o,e,c,d⟩:=id st'
  exact⟨u,rfl,go_of (s:={ s with heap:=h' }) e c d (by decide) ⟨x,H,I1,ru,⟨rfl,fun ys hy=>by rw [I.tuple_inj hy hq];exact hx⟩,st',fun b hb=>(hf b hb).1⟩⟩
 done:=by
  intro X hP hw hK hc i pins s σ H E I hf st hg
  subst hP hw hK
  obtain⟨xs,hq,hx⟩:=hg
  obtain⟨its,rv,p,hz⟩:=I.tuple hq
  obtain⟨f0,f1,f2,f3,f4,f5⟩:=hf it (by simp)
  have hl:=rv.length
  exact wpAny_pyNext_tuple_end (I.ok.hd hc) st (show s.heap.IsTuple a its.toArray from p) (by simp;omega) fun h' eb=>⟨rfl,I.turned (t':=s.toks) (fun b o hb e=>eb b o hb e) f0 f1 f3 f4 f5⟩
 self:=fun _ _ _ _ _ st h=>wpAny_pyIter_tupleiter st h
theorem turn_range {P:Program} {w:World} {K:W.Frag} {tg:Expr} (it:Addr) (lo:Int) (n:Nat):Turn P w K tg (Itr lo n) [it] it (fun i h=>IsRangeIter h it (lo+(i:Nat) * 1) ((n:Int) - (i:Nat)) 1) where
 mem:=by simp
 obj:=fun i h st b hb=>by
  have e:b=it:=by simpa using hb
  subst e
  exact⟨_,st,fun v z=>by
   have z':Data.fields _=Data.cell v:=z
   cases z'⟩
 keep:=fun i h h' st k=>k it (by simp) _ st
 item:=by
  intro X hP hw hK hc i pins s σ H E I hf st hg
  subst hP hw hK
  obtain⟨f0,f1,f2,f3,f4,f5⟩:=hf it (by simp)
  have W:=Walks.range (prog:=X.prog) (w:=X.w) (I.ok.hd hc) it lo 1 n
  refine W.item i s _ _ hg st fun v h' tk hv st' kk=>?_
  obtain⟨t,rfl⟩:=hv
  have I1:Inv X pins σ H { s with heap:=h',toks:=tk }:=I.turned (fun b o hb e=>kk b o (by simpa using hb) e) f0 f1 f3 f4 f5
  refine⟨_,rfl,go_of (s:={ s with heap:=h',toks:=tk }) (n := "range_iterator") st' rfl rfl (by decide) ⟨.int (lo+i),H,I1,⟨t,?_⟩,⟨rfl,rfl⟩,st',fun b hb=>(hf b hb).1⟩⟩
  rw [Int.mul_one]
 done:=by
  intro X hP hw hK hc i pins s σ H E I hf st hg
  subst hP hw hK
  obtain⟨f0,f1,f2,f3,f4,f5⟩:=hf it (by simp)
  exact wpAny_pyNext_range_end (I.ok.hd hc) st (by have:n<=i:=hg;omega) fun h' eb=>⟨rfl,I.turned (t':=s.toks) (fun b o hb e=>eb b o hb e) f0 f1 f3 f4 f5⟩
 self:=fun _ _ _ _ _ st h=>wpAny_pyIter_rangeiter st h
section
variable {X:Cx} {tg:Expr}
def iList (K:W.Frag) (tl:TE):TI:=fun σ H R=>tl σ H fun x H1=>∃a,x=.ref a∧(∃xs,SqL K H1 a xs)∧R (Itl K a) H1
def iTup (K:W.Frag) (tl:TE):TI:=fun σ H R=>tl σ H fun x H1=>∃a,x=.ref a∧(∃xs,SqT K H1 a xs)∧R (Itt K a) H1
theorem pi_list {l:Expr} {tl:TE} (hl:PE X l tl):PI X tg l (iList X.K tl):=by
 intro pins s σ H R I h
 refine thn (hl pins s σ H _ I h) fun v s1 ⟨x,H1,I1,r1,q1⟩=>?_
 obtain⟨a,e,⟨xs,hq⟩,q⟩:=q1
 subst e
 cases r1
 obtain⟨its,rv,p,hz⟩:=I1.list hq
 refine wpAny_pyIter_list p.isList ?_
 refine⟨s1.heap.objs.size,[s1.heap.objs.size],_,_,H1,rfl,I1.kept (t':=s1.toks) fun b o e=>Heap.get?_push_of_some _ e,turn_list a _,⟨_,Heap.get?_push_size _ rfl,rfl,rfl⟩,fun b hb=>?_,q⟩
 have e:b=s1.heap.objs.size:=by simpa using hb
 subst e
 exact I1.fpOk (Nat.le_refl _) (I1.hok.fresh (Nat.le_refl _))
theorem pi_tup {l:Expr} {tl:TE} (hl:PE X l tl):PI X tg l (iTup X.K tl):=by
 intro pins s σ H R I h
 refine thn (hl pins s σ H _ I h) fun v s1 ⟨x,H1,I1,r1,q1⟩=>?_
 obtain⟨a,e,⟨xs,hq⟩,q⟩:=q1
 subst e
 cases r1
 obtain⟨its,rv,p,hz⟩:=I1.tuple hq
 refine wpAny_pyIter_tuple (show s1.heap.IsTuple a its.toArray from p) ?_
 refine⟨s1.heap.objs.size,[s1.heap.objs.size],_,_,H1,rfl,I1.kept (t':=s1.toks) fun b o e=>Heap.get?_push_of_some _ e,turn_tuple a _,⟨_,Heap.get?_push_size _ rfl,rfl,rfl⟩,fun b hb=>?_,q⟩
 have e:b=s1.heap.objs.size:=by simpa using hb
 subst e
 exact I1.fpOk (Nat.le_refl _) (I1.hok.fresh (Nat.le_refl _))
theorem range_it {pins:List (Addr×Obj)} {σ:St} {H:Hp} {s:Shared} {R:It->Hp->Prop} {E:Value->Shared->Prop} {lo hi:Int} {t u v:Tok} {tk:Nat} (I:Inv X pins σ H s) (h1:-(2 ^ 62)<=lo) (h2:lo < 2 ^ 62) (h3:-(2 ^ 62)<=hi) (h4:hi < 2 ^ 62)
  (q:R (Itr lo (hi - lo).toNat) H):wpAny (model X.prog X.w) X.A (pyIter (.ref s.heap.objs.size)) (PIE X pins σ tg R) E { s with heap:=s.heap.push { cls:=.type "range",data:=.fields #[.int lo t,.int hi u,.int 1 v] },toks:=tk }:=by
 refine wpAny_pyIter_range (IsRange.new ..) (small_one h1 h2 h3 h4) ?_
 have I1:Inv X pins σ H { s with heap:=s.heap.push { cls:=.type "range",data:=.fields #[.int lo t,.int hi u,.int 1 v] },toks:=tk }:=I.kept fun b o e=>Heap.get?_push_of_some _ e
 refine⟨(s.heap.push { cls:=.type "range",data:=.fields #[.int lo t,.int hi u,.int 1 v] }).objs.size,[(s.heap.push { cls:=.type "range",data:=.fields #[.int lo t,.int hi u,.int 1 v] }).objs.size],_,_,H,rfl,
  I1.kept (t':=tk) fun b o e=>Heap.get?_push_of_some _ e,turn_range _ lo (hi - lo).toNat,?_,fun b hb=>?_,q⟩
 ·have e1:lo+((0:Nat):Int) * 1=lo:=by simp
  have e2:(((hi - lo).toNat:Nat):Int) - ((0:Nat):Int)=Builtin.Range.rangeSize lo hi 1:=by rw [rangeSize_one];split <;> omega
  show IsRangeIter _ _ (lo+((0:Nat):Int) * 1) ((((hi - lo).toNat:Nat):Int) - ((0:Nat):Int)) 1
  rw [e1,e2]
  exact Heap.get?_push_size _ rfl
 ·have e:b=(s.heap.push { cls:=.type "range",data:=.fields #[.int lo t,.int hi u,.int 1 v] }).objs.size:=by simpa using hb
  subst e
  exact I1.fpOk (Nat.le_refl _) (I1.hok.fresh (Nat.le_refl _))
def iRng1 (ta:TA):TI:=fun σ H R=>ta σ H fun vs H1=>∃j:Int,vs=[.int j]∧-(2 ^ 62)<=j∧j < 2 ^ 62∧R (Itr 0 j.toNat) H1
def iRng2 (ta:TA):TI:=fun σ H R=>ta σ H fun vs H1=>∃i j:Int,vs=[.int i,.int j]∧(-(2 ^ 62)<=i∧i < 2 ^ 62∧-(2 ^ 62)<=j∧j < 2 ^ 62)∧R (Itr i (j - i).toNat) H1
theorem pi_range1 {a:Expr} {ta:TA} {p pos:Pos} (hg:Gl X "range") (hm:X.mg "range" = none) (ha:PA X [a] ta) (hs:starEach [a] X.env=[(false,eval a X.env)]:=by rfl):PI X tg (.Call (.Name "range" p) [a] [] pos) (iRng1 ta):=by
 intro pins s σ H R I h
 refine Call_ (ld_blt I hg hm boot_range (PyProof.Rows.callWith_type1 (thn (ha pos pins s σ H _ I h) fun us s1 ⟨vs,H1,I1,r1,q1⟩=>?_) hs rfl))
 obtain⟨j,e,q1,q2,q⟩:=q1
 subst e
 cases r1 with
 | cons r rr=>
  cases rr
  obtain⟨t,rfl⟩:=r
  exact call_range_1 (range_it I1 (by omega) (by omega) q1 q2 (by simpa using q))
theorem pi_range2 {a b:Expr} {ta:TA} {p pos:Pos} (hg:Gl X "range") (hm:X.mg "range" = none) (ha:PA X [a,b] ta) (hs:starEach [a,b] X.env=[(false,eval a X.env),(false,eval b X.env)]:=by rfl) (hs2:starEach [b] X.env=[(false,eval b X.env)]:=by rfl):
  PI X tg (.Call (.Name "range" p) [a,b] [] pos) (iRng2 ta):=by
 intro pins s σ H R I h
 refine Call_ (ld_blt I hg hm boot_range (PyProof.Rows.callWith_type1 (thn (ha pos pins s σ H _ I h) fun us s1 ⟨vs,H1,I1,r1,q1⟩=>?_) (by rw [hs,hs2]) (by rw [hs2];rfl)))
 obtain⟨i,j,e,⟨q1,q2,q3,q4⟩,q⟩:=q1
 subst e
 cases r1 with
 | cons r rr=>
  cases rr with
  | cons r' rr=>
   cases rr
   obtain⟨t,rfl⟩:=r
   obtain⟨t',rfl⟩:=r'
   exact call_range_2 (range_it I1 q1 q2 q3 q4 q)
def tFor (wi:TI) (g:TG) (tb:TS):TS:=fun D σ H=>wi σ H fun J H1=>∃W:Nat->Nat->St->Hp->Prop,(∃m,W 0 m σ H1)∧∀i m σ H,W i m σ H->
 (J.stop i H∧D.nx σ H)∨(J.go i H∧∃N:St->Hp->Prop,(∀σ' H',N σ' H'->∃m',m' < m∧W (i+1) m' σ' H')∧∀x H',J.yld i H x H'->g x σ H' fun σ2 H2=>tb { D with nx:=N,ct:=N,bk:=D.nx } σ2 H2)
def pinsAt (fp:List Addr) (h:Heap):List (Addr×Obj):=fp.filterMap fun b=>(h.get? b).map fun o=>(b,o)
theorem mem_pinsAt {fp:List Addr} {h:Heap} {b:Addr} {o:Obj} (hb:b∈fp) (e:h.get? b=some o):(b,o)∈pinsAt fp h:=List.mem_filterMap.mpr ⟨b,hb,by rw [e];rfl⟩
theorem of_pinsAt {fp:List Addr} {h:Heap} {p:Addr×Obj} (hp:p∈pinsAt fp h):p.1∈fp∧h.get? p.1=some p.2:=by
 obtain⟨b,hb,e⟩:=List.mem_filterMap.mp hp
 cases q:h.get? b with
 | none=>rw [q] at e;cases e
 | some o=>
  rw [q] at e
  have e':(b,o)=p:=Option.some.inj e
  subst e'
  exact⟨hb,q⟩
theorem Inv.pinned {pins:List (Addr×Obj)} {σ:St} {H:Hp} {s:Shared} {fp:List Addr} (I:Inv X pins σ H s) (hf:∀b∈fp,FpOk X pins H b) (ho:∀b∈fp,∃o,s.heap.get? b=some o∧∀v,o.data≠.cell v):Inv X (pins++pinsAt fp s.heap) σ H s:=
 I.pins_of fun p hp=>(List.mem_append.mp hp).elim (fun z=>I.pin p (List.mem_append_right _ z)) fun z=>by
  obtain⟨hb,e⟩:=of_pinsAt z
  obtain⟨f0,f1,f2,_⟩:=hf p.1 hb
  obtain⟨o,e',d⟩:=ho p.1 hb
  rw [e] at e';cases e'
  exact⟨e,f0,f1,f2,d⟩
theorem Inv.unpinned {pins pl:List (Addr×Obj)} {σ:St} {H:Hp} {s:Shared} (I:Inv X (pins++pl) σ H s):Inv X pins σ H s:=I.pins_of fun p hp=>I.pin p (List.mem_append_right _ (List.mem_append_left _ hp))
theorem ps_for {iter:Expr} {body:List Stmt} {wi:TI} {g:TG} {tb:TS} {pos:Pos} (hp:PassesOwn (model X.prog X.w) X.A X.env X.xe) (hc:X.calm=true) (hi:PI X tg iter wi) (hg:PG X tg g) (hb:PSs X body tb)
  (hs:∀x,foldedSetIterable iter X.env x=pure x:=by intro _;rfl):PS X (.For tg iter body [] pos) (tFor wi g tb):=by
 intro pins s σ H D I h
 refine wpAny_For (thn (hi pins s σ H _ I h) fun v s1 h1=>thn h1 fun itv s2 h2=>?_) hs
 obtain⟨it,fp,tn,J,H2,e,I2,T,st2,f2,W,⟨m0,w0⟩,turn⟩:=h2
 subst e
 have stat:∀{H':Hp},(∀b∈fp,H' b=none)->∀b∈fp,FpOk X pins H' b:=fun hn b hb=>⟨hn b hb,(f2 b hb).2⟩
 refine codeAny_forLoop_any (fun n s'=>∃i σ' H',Inv X pins σ' H' s'∧tn i s'.heap∧(∀b∈fp,H' b=none)∧W i n σ' H') ?_ m0 ⟨0,σ,H2,I2,st2,fun b hb=>(f2 b hb).1,w0⟩
 rintro n s3 ⟨i,σ3,H3,I3,st3,fr3,w3⟩
 rcases turn i n σ3 H3 w3 with ⟨stop,qn⟩ | ⟨go,N,hN,step⟩
 ·refine wpAny_passesOwn hp (thn (T.done X rfl rfl rfl hc i pins s3 σ3 H3 X.xe I3 (stat fr3) st3 stop) fun r s4 ⟨hr,I4⟩=>?_)
  subst hr
  exact wpAny_execs_nil ⟨σ3,H3,I4,qn⟩
 ·refine wpAny_passesOwn hp (thn (T.item X rfl rfl rfl hc i pins s3 σ3 H3 X.xe I3 (stat fr3) st3 go) fun r s4 ⟨u,hr,h4⟩=>?_)
  subst hr
  refine wpAny_passesOwn hp (thn h4 fun _ s5 ⟨x,H5,I5,r5,y5,st5,fr5⟩=>?_)
  have I5':=I5.pinned (stat fr5) (T.obj _ _ st5)
  refine wpAny_passesOwn hp (thn (hg _ s5 σ3 H5 x u _ I5' r5 (step x H5 y5)) fun _ s6 ⟨σ6,H6,I6,q6⟩=>?_)
  refine wpAny_passesOwn hp (thn (hb _ s6 σ6 H6 _ I6 q6) fun f s7 q7=>?_)
  have again:∀{σ7:St} {H7:Hp},Inv X (pins++pinsAt fp s5.heap) σ7 H7 s7->N σ7 H7->∃m,m < n∧∃i σ' H',Inv X pins σ' H' s7∧tn i s7.heap∧(∀b∈fp,H' b=none)∧W i m σ' H':=fun {σ7 H7} I7 n7=>by
   obtain⟨m',hm,w7⟩:=hN σ7 H7 n7
   refine⟨m',hm,i+1,σ7,H7,I7.unpinned,T.keep _ _ _ st5 fun b hb o e=>(I7.pin (b,o) (List.mem_append_right _ (List.mem_append_right _ (mem_pinsAt hb e)))).1,fun b hb=>?_,w7⟩
   obtain⟨o,e,d⟩:=T.obj _ _ st5 b hb
   exact (I7.pin (b,o) (List.mem_append_right _ (List.mem_append_right _ (mem_pinsAt hb e)))).2.1
  cases f with
  | next=>obtain⟨σ7,H7,I7,n7⟩:=q7;exact again I7 n7
  | cont=>obtain⟨σ7,H7,I7,n7⟩:=q7;exact again I7 n7
  | brk=>obtain⟨σ7,H7,I7,q7⟩:=q7;exact⟨σ7,H7,I7.unpinned,q7⟩
  | ret v=>obtain⟨x7,σ7,H7,I7,r7,q7⟩:=q7;exact⟨x7,σ7,H7,I7.unpinned,r7,q7⟩
end
theorem for_list {K:W.Frag} {a:Addr} {xs:List V} {g:TG} {tb:TS} {D:Ends} {σ:St} {H:Hp} (Pv:Nat->St->Hp->Prop) (h0:Pv 0 σ H) (hl:∀i σ H,i<=xs.length->Pv i σ H->SqL K H a xs)
  (hs:∀i x σ H,xs[i]?=some x->Pv i σ H->g x σ H fun σ2 H2=>tb { D with nx:=Pv (i+1),ct:=Pv (i+1),bk:=D.nx } σ2 H2) (hd:∀σ H,Pv xs.length σ H->D.nx σ H):
  ∃W:Nat->Nat->St->Hp->Prop,(∃m,W 0 m σ H)∧∀i m σ H,W i m σ H->
   ((Itl K a).stop i H∧D.nx σ H)∨((Itl K a).go i H∧∃N:St->Hp->Prop,(∀σ' H',N σ' H'->∃m',m' < m∧W (i+1) m' σ' H')∧∀x H',(Itl K a).yld i H x H'->g x σ H' fun σ2 H2=>tb { D with nx:=N,ct:=N,bk:=D.nx } σ2 H2):=by
 refine⟨fun i m σ H=>m=xs.length - i∧i<=xs.length∧Pv i σ H,⟨xs.length,by simp,Nat.zero_le _,h0⟩,?_⟩
 rintro i m σ H ⟨rfl,hi,p⟩
 have q:=hl i σ H hi p
 by_cases hlt:i < xs.length
 ·refine .inr ⟨⟨xs,xs[i],q,by simp [hlt]⟩,Pv (i+1),fun σ' H' p'=>⟨xs.length - (i+1),by omega,rfl,hlt,p'⟩,fun x H' y=>?_⟩
  obtain⟨e,y⟩:=y
  subst e
  exact hs i x σ _ (y xs q) p
 ·have e:i=xs.length:=by omega
  subst e
  exact .inl ⟨⟨xs,q,Nat.le_refl _⟩,hd σ H p⟩
theorem for_range {lo:Int} {n:Nat} {g:TG} {tb:TS} {D:Ends} {σ:St} {H:Hp} (Pv:Nat->St->Hp->Prop) (h0:Pv 0 σ H)
  (hs:∀i σ H,i < n->Pv i σ H->g (.int (lo+i)) σ H fun σ2 H2=>tb { D with nx:=Pv (i+1),ct:=Pv (i+1),bk:=D.nx } σ2 H2) (hd:∀σ H,Pv n σ H->D.nx σ H):
  ∃W:Nat->Nat->St->Hp->Prop,(∃m,W 0 m σ H)∧∀i m σ H,W i m σ H->
   ((Itr lo n).stop i H∧D.nx σ H)∨((Itr lo n).go i H∧∃N:St->Hp->Prop,(∀σ' H',N σ' H'->∃m',m' < m∧W (i+1) m' σ' H')∧∀x H',(Itr lo n).yld i H x H'->g x σ H' fun σ2 H2=>tb { D with nx:=N,ct:=N,bk:=D.nx } σ2 H2):=by
 refine⟨fun i m σ H=>m=n - i∧i<=n∧Pv i σ H,⟨n,by simp,Nat.zero_le _,h0⟩,?_⟩
 rintro i m σ H ⟨rfl,hi,p⟩
 by_cases hlt:i < n
 ·refine .inr ⟨hlt,Pv (i+1),fun σ' H' p'=>⟨n - (i+1),by omega,rfl,hlt,p'⟩,fun x H' y=>?_⟩
  obtain⟨e,y⟩:=y
  subst e y
  exact hs i σ _ hlt p
 ·have e:i=n:=by omega
  subst e
  exact .inl ⟨Nat.le_refl _,hd σ H p⟩
abbrev R2:=V->V->Hp->VK->Prop
def OpR (X:Cx) (f:Value->Value->Sem Value) (r:R2):Prop:=
 ∀(pins:List (Addr×Obj)) (s:Shared) (σ:St) (H:Hp) (x y:V) (v u:Value) (Q:VK),Inv X pins σ H s->RelV x v->RelV y u->r x y H Q->
  wpAny (model X.prog X.w) X.A (f v u) (EP X pins σ Q) X.xe s
def UnR (X:Cx) (f:Value->Sem Value) (r:V->Hp->VK->Prop):Prop:=
 ∀(pins:List (Addr×Obj)) (s:Shared) (σ:St) (H:Hp) (x:V) (v:Value) (Q:VK),Inv X pins σ H s->RelV x v->r x H Q->
  wpAny (model X.prog X.w) X.A (f v) (EP X pins σ Q) X.xe s
def CallR (X:Cx) (f:Value) (r:List V->Hp->VK->Prop):Prop:=
 ∀(pins:List (Addr×Obj)) (s:Shared) (σ:St) (H:Hp) (xs:List V) (us:List Value) (Q:VK),Inv X pins σ H s->Vals xs us->r xs H Q->
  wpAny (model X.prog X.w) X.A (call f us) (EP X pins σ Q) X.xe s
def tOp (r:R2) (ta tb:TE):TE:=fun σ H Q=>ta σ H fun x H1=>tb σ H1 fun y H2=>r x y H2 Q
def tUn (r:V->Hp->VK->Prop) (ta:TE):TE:=fun σ H Q=>ta σ H fun x H1=>r x H1 Q
def rI (C:Int->Int->Prop) (g:Int->Int->V):R2:=fun x y H Q=>∃i j,x=.int i∧y=.int j∧C i j∧Q (g i j) H
def rI0 (g:Int->Int->V):R2:=fun x y H Q=>∃i j,x=.int i∧y=.int j∧Q (g i j) H
def rU (g:Int->V):V->Hp->VK->Prop:=fun x H Q=>∃i,x=.int i∧Q (g i) H
section
variable {X:Cx} {a b c:Expr} {ta tb tc:TE} {pos:Pos}
theorem binT (ha:PE X a ta) (hb:PE X b tb) {pins:List (Addr×Obj)} {s:Shared} {σ:St} {H:Hp} {R:V->V->Hp->Prop} (I:Inv X pins σ H s)
  (h:ta σ H fun x H1=>tb σ H1 fun y H2=>R x y H2) {Q:Value->Shared->Prop} {f:Value->Value->Sem Value}
  (hf:∀v u s2 x y H2,Inv X pins σ H2 s2->RelV x v->RelV y u->R x y H2->wpAny (model X.prog X.w) X.A (f v u) Q X.xe s2):
  wpAny (model X.prog X.w) X.A (eval a X.env) (fun v s₁=>wpAny (model X.prog X.w) X.A (eval b X.env) (fun u s₂=>wpAny (model X.prog X.w) X.A (f v u) Q X.xe s₂) X.xe s₁) X.xe s:=by
 refine thn (ha pins s σ H _ I h) fun v s1 ⟨x,H1,I1,r1,q1⟩=>?_
 refine thn (hb pins s1 σ H1 _ I1 q1) fun u s2 ⟨y,H2,I2,r2,q2⟩=>?_
 exact hf v u s2 x y H2 I2 r1 r2 q2
theorem pe_op {op:Operator} {r:R2} (ho:OpR X (binaryOp op) r) (ha:PE X a ta) (hb:PE X b tb):PE X (.BinOp a op b pos) (tOp r ta tb):=by
 intro pins s σ H Q I h
 exact wpAny_BinOp (binT ha hb I h fun v u s2 x y H2 I2 rx ry q=>ho pins s2 σ H2 x y v u Q I2 rx ry q)
theorem pe_un {op:UnaryOp} {r:V->Hp->VK->Prop} (ho:UnR X (unaryOp op) r) (ha:PE X a ta):PE X (.UnaryOp op a pos) (tUn r ta):=by
 intro pins s σ H Q I h
 exact UnaryOp_ (thn (ha pins s σ H _ I h) fun v s1 ⟨x,H1,I1,r1,q1⟩=>ho pins s1 σ H1 x v Q I1 r1 q1)
theorem opI {f:Value->Value->Sem Value} {C:Int->Int->Prop} {g:Int->Int->Int}
  (rule:∀(i j:Int) (t u:Tok) (s:Shared) (Q:Value->Shared->Prop) (E:Value->Shared->Prop),C i j->Q (.int (g i j) s.toks) { s with toks:=s.toks+1 }->wpAny (model X.prog X.w) X.A (f (.int i t) (.int j u)) Q E s):
  OpR X f (rI C fun i j=>.int (g i j)):=by
 intro pins s σ H x y v u Q I rx ry h
 obtain⟨i,j,rfl,rfl,hc,q⟩:=h
 obtain⟨t,rfl⟩:=rx
 obtain⟨t',rfl⟩:=ry
 exact rule i j t t' s _ _ hc ⟨.int (g i j),H,I.tok _,⟨_,rfl⟩,q⟩
theorem opI0 {f:Value->Value->Sem Value} {g:Int->Int->Int}
  (rule:∀(i j:Int) (t u:Tok) (s:Shared) (Q:Value->Shared->Prop) (E:Value->Shared->Prop),Q (.int (g i j) s.toks) { s with toks:=s.toks+1 }->wpAny (model X.prog X.w) X.A (f (.int i t) (.int j u)) Q E s):
  OpR X f (rI0 fun i j=>.int (g i j)):=by
 intro pins s σ H x y v u Q I rx ry h
 obtain⟨i,j,rfl,rfl,q⟩:=h
 obtain⟨t,rfl⟩:=rx
 obtain⟨t',rfl⟩:=ry
 exact rule i j t t' s _ _ ⟨.int (g i j),H,I.tok _,⟨_,rfl⟩,q⟩
theorem opB0 {f:Value->Value->Sem Value} {g:Int->Int->Bool}
  (rule:∀(i j:Int) (t u:Tok) (s:Shared) (Q:Value->Shared->Prop) (E:Value->Shared->Prop),Q (.bool (g i j)) s->wpAny (model X.prog X.w) X.A (f (.int i t) (.int j u)) Q E s):
  OpR X f (rI0 fun i j=>.bl (g i j)):=by
 intro pins s σ H x y v u Q I rx ry h
 obtain⟨i,j,rfl,rfl,q⟩:=h
 obtain⟨t,rfl⟩:=rx
 obtain⟨t',rfl⟩:=ry
 exact rule i j t t' s _ _ ⟨.bl (g i j),H,I,rfl,q⟩
def CDiv (i j:Int):Prop:=0 < j∧j < 1073741824
def CPow (i j:Int):Prop:=0<=j∧j<=1000000∧i.natAbs < 2 ^ 64
def CMul (i j:Int):Prop:=(-(2 ^ 64) < i∧i < 2 ^ 64)∨(-(2 ^ 64) < j∧j < 2 ^ 64)
theorem CMul.ok {i j:Int} (h:CMul i j):IntMulOk i j:=by
 rcases h with ⟨h1,h2⟩ | ⟨h1,h2⟩
 ·exact .of_left (intBits_le_64 h1 h2)
 ·exact .of_right (intBits_le_64 h1 h2)
theorem op_add:OpR X (binaryOp .Add) (rI0 fun i j=>.int (i+j)):=opI0 fun _ _ _ _ _ _ _ q=>add_int q
theorem op_sub:OpR X (binaryOp .Sub) (rI0 fun i j=>.int (i - j)):=opI0 fun _ _ _ _ _ _ _ q=>sub_int q
theorem op_mul:OpR X (binaryOp .Mult) (rI CMul fun i j=>.int (i * j)):=opI fun _ _ _ _ _ _ _ hc q=>mul_int q hc.ok
theorem op_fdiv:OpR X (binaryOp .FloorDiv) (rI CDiv fun i j=>.int (i / j)):=opI fun i j _ _ _ _ _ hc q=>by
 have h1:(0:Int) < j:=hc.1
 have h2:j < 1073741824:=hc.2
 exact floordiv_int (by omega) (by rw [Int.fdiv_eq_ediv_of_nonneg i (by omega)];exact q) (.inl (PyProof.noPylong_small (by omega)))
theorem op_mod:OpR X (binaryOp .Mod) (rI (fun _ j=>0 < j) fun i j=>.int (i % j)):=opI fun i j _ _ _ _ _ hc q=>by
 have h1:(0:Int) < j:=hc
 exact mod_int' (by omega) (by rw [Int.fmod_eq_emod_of_nonneg i (by omega)];exact q)
theorem op_pow:OpR X (binaryOp .Pow) (rI CPow fun i j=>.int (i ^ j.toNat)):=opI fun _ _ _ _ _ _ _ hc q=>pow_int_small hc.1 hc.2.1 hc.2.2 q
theorem unI {f:Value->Sem Value} {g:Int->Int}
  (rule:∀(i:Int) (t:Tok) (s:Shared) (Q:Value->Shared->Prop) (E:Value->Shared->Prop),Q (.int (g i) s.toks) { s with toks:=s.toks+1 }->wpAny (model X.prog X.w) X.A (f (.int i t)) Q E s):
  UnR X f (rU fun i=>.int (g i)):=by
 intro pins s σ H x v Q I rx h
 obtain⟨i,rfl,q⟩:=h
 obtain⟨t,rfl⟩:=rx
 exact rule i t s _ _ ⟨.int (g i),H,I.tok _,⟨_,rfl⟩,q⟩
theorem un_neg:UnR X (unaryOp .USub) (rU fun i=>.int (-i)):=unI fun _ _ _ _ _ q=>neg_int q
end
def scal:V->V->Bool
 | .non,.non=>true | .non,.int _=>true | .int _,.non=>true | .non,.bl _=>true | .bl _,.non=>true | .non,.str _=>true | .str _,.non=>true
 | .int _,.int _=>true | .bl _,.bl _=>true | .str _,.str _=>true | .byt _,.byt _=>true
 | .int _,.str _=>true | .str _,.int _=>true | .bl _,.str _=>true | .str _,.bl _=>true
 | _,_=>false
def rEq:R2:=fun x y H Q=>scal x y=true∧Q (.bl (decide (x=y))) H
def rNe:R2:=fun x y H Q=>scal x y=true∧Q (.bl (!decide (x=y))) H
theorem dec_int {i j:Int}:decide (V.int i=V.int j)=(i == j):=by
 rw [Bool.eq_iff_iff]
 simp
theorem dec_bl {i j:Bool}:decide (V.bl i=V.bl j)=(i == j):=by
 rw [Bool.eq_iff_iff]
 simp
theorem dec_str {i j:Str}:decide (V.str i=V.str j)=(i == j):=by
 rw [Bool.eq_iff_iff]
 simp
theorem dec_byt {i j:Array UInt8}:decide (V.byt i=V.byt j)=(i.toList == j.toList):=by
 rw [Bool.eq_iff_iff]
 cases i
 cases j
 simp
section
variable {X:Cx} {a b c:Expr} {ta tb tc:TE} {pos:Pos}
theorem fin_bl {pins:List (Addr×Obj)} {σ:St} {H:Hp} {s:Shared} {Q:VK} {k k':Bool} (I:Inv X pins σ H s) (q:Q (.bl k) H) (e:k=k'):EP X pins σ Q (.bool k') s:=by
 subst e
 exact⟨.bl k,H,I,rfl,q⟩
theorem op_eq:OpR X (compareOp .Eq) rEq:=by
 intro pins s σ H x y v u Q I rx ry h
 obtain⟨hs,q⟩:=h
 cases x with
 | non=>
  cases rx
  cases y with
  | non=>cases ry;exact PySem.EqNone.eq_none_none (fin_bl I q (by simp))
  | bl j=>cases ry;exact PySem.EqNone.eq_none_bool (fin_bl I q (by simp))
  | int j=>obtain⟨t',rfl⟩:=ry;exact PySem.EqNone.eq_none_int (fin_bl I q (by simp))
  | str j=>obtain⟨t',rfl⟩:=ry;exact PySem.EqNone.eq_none_str (fin_bl I q (by simp))
  | _=>exact absurd (show false=true from hs) Bool.false_ne_true
 | bl i=>
  cases rx
  cases y with
  | non=>cases ry;exact PySem.EqNone.eq_bool_none (fin_bl I q (by simp))
  | bl j=>cases ry;exact eq_bool (fin_bl I q dec_bl)
  | str j=>obtain⟨t',rfl⟩:=ry;exact PySem.EqMixed.eq_bool_str (fin_bl I q (by simp))
  | _=>exact absurd (show false=true from hs) Bool.false_ne_true
 | int i=>
  obtain⟨t,rfl⟩:=rx
  cases y with
  | non=>cases ry;exact PySem.EqNone.eq_int_none (fin_bl I q (by simp))
  | int j=>obtain⟨t',rfl⟩:=ry;exact eq_int (fin_bl I q dec_int)
  | str j=>obtain⟨t',rfl⟩:=ry;exact PySem.EqMixed.eq_int_str (fin_bl I q (by simp))
  | _=>exact absurd (show false=true from hs) Bool.false_ne_true
 | str i=>
  obtain⟨t,rfl⟩:=rx
  cases y with
  | non=>cases ry;exact PySem.EqNone.eq_str_none (fin_bl I q (by simp))
  | bl j=>cases ry;exact PySem.EqMixed.eq_str_bool (fin_bl I q (by simp))
  | int j=>obtain⟨t',rfl⟩:=ry;exact PySem.EqMixed.eq_str_int (fin_bl I q (by simp))
  | str j=>obtain⟨t',rfl⟩:=ry;exact eq_str (fin_bl I q dec_str)
  | _=>exact absurd (show false=true from hs) Bool.false_ne_true
 | byt i=>
  obtain⟨t,rfl⟩:=rx
  cases y with
  | byt j=>obtain⟨t',rfl⟩:=ry;exact PySem.W.eq_bytes (fin_bl I q dec_byt)
  | _=>exact absurd (show false=true from hs) Bool.false_ne_true
 | _=>cases y <;> exact absurd (show false=true from hs) Bool.false_ne_true
theorem op_ne:OpR X (compareOp .NotEq) rNe:=by
 intro pins s σ H x y v u Q I rx ry h
 obtain⟨hs,q⟩:=h
 cases x with
 | non=>
  cases rx
  cases y with
  | non=>cases ry;exact PySem.EqNone.ne_none_none (fin_bl I q (by simp))
  | bl j=>cases ry;exact PySem.EqNone.ne_none_bool (fin_bl I q (by simp))
  | int j=>obtain⟨t',rfl⟩:=ry;exact PySem.EqNone.ne_none_int (fin_bl I q (by simp))
  | str j=>obtain⟨t',rfl⟩:=ry;exact PySem.EqNone.ne_none_str (fin_bl I q (by simp))
  | _=>exact absurd (show false=true from hs) Bool.false_ne_true
 | bl i=>
  cases rx
  cases y with
  | non=>cases ry;exact PySem.EqNone.ne_bool_none (fin_bl I q (by simp))
  | bl j=>cases ry;exact ne_bool (fin_bl I q (congrArg not dec_bl))
  | str j=>obtain⟨t',rfl⟩:=ry;exact PySem.EqMixed.ne_bool_str (fin_bl I q (by simp))
  | _=>exact absurd (show false=true from hs) Bool.false_ne_true
 | int i=>
  obtain⟨t,rfl⟩:=rx
  cases y with
  | non=>cases ry;exact PySem.EqNone.ne_int_none (fin_bl I q (by simp))
  | int j=>obtain⟨t',rfl⟩:=ry;exact ne_int (fin_bl I q (congrArg not dec_int))
  | str j=>obtain⟨t',rfl⟩:=ry;exact PySem.EqMixed.ne_int_str (fin_bl I q (by simp))
  | _=>exact absurd (show false=true from hs) Bool.false_ne_true
 | str i=>
  obtain⟨t,rfl⟩:=rx
  cases y with
  | non=>cases ry;exact PySem.EqNone.ne_str_none (fin_bl I q (by simp))
  | bl j=>cases ry;exact PySem.EqMixed.ne_str_bool (fin_bl I q (by simp))
  | int j=>obtain⟨t',rfl⟩:=ry;exact PySem.EqMixed.ne_str_int (fin_bl I q (by simp))
  | str j=>obtain⟨t',rfl⟩:=ry;exact ne_str (fin_bl I q (congrArg not dec_str))
  | _=>exact absurd (show false=true from hs) Bool.false_ne_true
 | byt i=>
  obtain⟨t,rfl⟩:=rx
  cases y with
  | byt j=>obtain⟨t',rfl⟩:=ry;exact PySem.W.ne_bytes (fin_bl I q (congrArg not dec_byt))
  | _=>exact absurd (show false=true from hs) Bool.false_ne_true
 | _=>cases y <;> exact absurd (show false=true from hs) Bool.false_ne_true
theorem op_lt:OpR X (compareOp .Lt) (rI0 fun i j=>.bl (decide (i < j))):=opB0 fun _ _ _ _ _ _ _ q=>lt_int q
theorem op_le:OpR X (compareOp .LtE) (rI0 fun i j=>.bl (decide (i<=j))):=opB0 fun _ _ _ _ _ _ _ q=>le_int q
theorem op_gt:OpR X (compareOp .Gt) (rI0 fun i j=>.bl (decide (j < i))):=opB0 fun _ _ _ _ _ _ _ q=>gt_int q
theorem op_in_str:OpR X (compareOp .In) (fun x y H Q=>∃i j,x=.str i∧y=.str j∧Q (.bl (!(Builtin.Str.occurrences j i 0 j.length 1).isEmpty)) H):=by
 intro pins s σ H x y v u Q I rx ry h
 obtain⟨i,j,rfl,rfl,q⟩:=h
 obtain⟨t,rfl⟩:=rx
 obtain⟨t',rfl⟩:=ry
 exact in_str (fin_bl I q rfl)
theorem op_isN:OpR X (compareOp .Is) (fun x y H Q=>y=.non∧Q (.bl (decide (x=.non))) H):=by
 intro pins s σ H x y v u Q I rx ry h
 obtain⟨rfl,q⟩:=h
 cases ry
 refine is_none_gen (fin_bl I q ?_)
 cases x <;> first
  |(cases rx;rfl)
  |(obtain⟨t,rfl⟩:=rx;rfl)
theorem op_notN:OpR X (compareOp .IsNot) (fun x y H Q=>y=.non∧Q (.bl (!decide (x=.non))) H):=by
 intro pins s σ H x y v u Q I rx ry h
 obtain⟨rfl,q⟩:=h
 cases ry
 refine isnot_none_gen (fin_bl I q ?_)
 cases x <;> first
  |(cases rx;rfl)
  |(obtain⟨t,rfl⟩:=rx;rfl)
theorem nomark (b:Expr) {op:CmpOp} (h:op≠.In:=by decide) (h2:op≠.NotIn:=by decide):behindInMarks op b=false:=by
 have e1:(op == CmpOp.In)=false:=by cases op <;> first | rfl | exact absurd rfl h
 have e2:(op == CmpOp.NotIn)=false:=by cases op <;> first | rfl | exact absurd rfl h2
 cases b <;> simp [behindInMarks,e1,e2]
theorem pe_cmpR {op:CmpOp} {r:R2} (ho:OpR X (compareOp op) r) (ha:PE X a ta) (hb:PE X b tb) (hm:behindInMarks op b=false):PE X (.Compare a [op] [b] pos) (tOp r ta tb):=by
 intro pins s σ H Q I h
 exact wpAny_Compare1 (binT ha hb I h fun v u s2 x y H2 I2 rx ry q=>ho pins s2 σ H2 x y v u Q I2 rx ry q) hm
def tTest (t:TE):TT:=fun σ H Q=>t σ H fun x H'=>∃k,x=.bl k∧Q k H'
theorem pt_cmpR {op:CmpOp} {r:R2} (ho:OpR X (compareOp op) r) (ha:PE X a ta) (hb:PE X b tb) (hm:behindInMarks op b=false):PT X (.Compare a [op] [b] pos) (tTest (tOp r ta tb)):=by
 intro pins s σ H Q I h
 refine wpAny_isTrue_Compare1 (thn (ha pins s σ H _ I h) fun v s1 ⟨x,H1,I1,r1,q1⟩=>thn (hb pins s1 σ H1 _ I1 q1) fun u s2 ⟨y,H2,I2,r2,q2⟩=>
  thn (ho pins s2 σ H2 x y v u _ I2 r1 r2 q2) fun c s3 ⟨z,H3,I3,r3,k,e,q3⟩=>?_) hm
 subst e
 cases r3
 exact wpAny_truthy_bool ⟨H3,I3,q3⟩
def tChain (r r':R2) (ta tb tc:TE):TE:=fun σ H Q=>ta σ H fun x H1=>tb σ H1 fun y H2=>r x y H2 fun z H3=>∃k,z=.bl k∧
 (if k=true then tc σ H3 fun w' H4=>r' y w' H4 Q else Q (.bl false) H3)
theorem pe_chain {op op':CmpOp} {r r':R2} (ho:OpR X (compareOp op) r) (ho':OpR X (compareOp op') r') (ha:PE X a ta) (hb:PE X b tb) (hc:PE X c tc)
  (hm:lastMarks [op,op'] [b,c]=false:=by with_unfolding_all rfl):PE X (.Compare a [op,op'] [b,c] pos) (tChain r r' ta tb tc):=by
 intro pins s σ H Q I h
 refine Compare_chain (thn (ha pins s σ H _ I h) fun v s1 ⟨x,H1,I1,r1,q1⟩=>chain_link (thn (hb pins s1 σ H1 _ I1 q1) fun u s2 ⟨y,H2,I2,r2,q2⟩=>
  thn (ho pins s2 σ H2 x y v u _ I2 r1 r2 q2) fun d s3 ⟨z,H3,I3,r3,k,e,q3⟩=>?_)) hm
 subst e
 cases r3
 refine wpAny_truthy_bool ?_
 cases k with
 | false=>exact ite_ff ⟨.bl false,H3,I3,rfl,q3⟩
 | true=>exact ite_tt (chain_last (thn (hc pins s3 σ H3 _ I3 q3) fun w' s4 ⟨z',H4,I4,r4,q4⟩=>ho' pins s4 σ H4 y z' u w' Q I4 r2 r4 q4))
theorem line63:(sizeLine:Nat) < 2 ^ 63:=by rw [sizeLine_eq];decide
theorem op_add_str:OpR X (binaryOp .Add) (fun x y H Q=>∃i j,x=.str i∧y=.str j∧i.length+j.length<=sizeLine∧Q (.str (i++j)) H):=by
 intro pins s σ H x y v u Q I rx ry h
 obtain⟨i,j,rfl,rfl,hz,q⟩:=h
 obtain⟨t,rfl⟩:=rx
 obtain⟨t',rfl⟩:=ry
 exact add_str (fun t' tk=>⟨.str (i++j),H,I.tok _,⟨_,rfl⟩,q⟩) hz
theorem iop_add_str:OpR X (inplaceOp .Add) (fun x y H Q=>∃i j,x=.str i∧y=.str j∧i.length+j.length<=sizeLine∧Q (.str (i++j)) H):=by
 intro pins s σ H x y v u Q I rx ry h
 obtain⟨i,j,rfl,rfl,hz,q⟩:=h
 obtain⟨t,rfl⟩:=rx
 obtain⟨t',rfl⟩:=ry
 exact iadd_str (fun t' tk=>⟨.str (i++j),H,I.tok _,⟨_,rfl⟩,q⟩) hz
theorem vals1 {x:V} {us:List Value} (r:Vals [x] us):∃u,us=[u]∧RelV x u:=by
 cases r with
 | cons r1 r2=>cases r2;exact⟨_,rfl,r1⟩
theorem vals2 {x y:V} {us:List Value} (r:Vals [x,y] us):∃u w',us=[u,w']∧RelV x u∧RelV y w':=by
 cases r with
 | cons r1 r2=>
  cases r2 with
  | cons r3 r4=>cases r4;exact⟨_,_,rfl,r1,r3⟩
theorem call_abs:CallR X (.builtin "abs") (fun xs H Q=>∃i,xs=[.int i]∧Q (.int (if i < 0 then -i else i)) H):=by
 intro pins s σ H xs us Q I r h
 obtain⟨i,rfl,q⟩:=h
 obtain⟨u,rfl,t,rfl⟩:=vals1 r
 exact call_abs_int fun u tk=>⟨.int (if i < 0 then -i else i),H,I.tok _,⟨_,rfl⟩,q⟩
theorem call_min2 (hc:X.calm=true):CallR X (.builtin "min") (fun xs H Q=>∃i j,xs=[.int i,.int j]∧Q (.int (if j < i then j else i)) H):=by
 intro pins s σ H xs us Q I r h
 obtain⟨i,j,rfl,q⟩:=h
 obtain⟨u,w',rfl,⟨t,rfl⟩,⟨t',rfl⟩⟩:=vals2 r
 refine min_two_ints (I.ok.hd hc) fun h' tk k=>⟨_,H,I.kept k,?_,q⟩
 by_cases hj:j < i
 ·rw [if_pos hj,if_pos hj];exact⟨_,rfl⟩
 ·rw [if_neg hj,if_neg hj];exact⟨_,rfl⟩
theorem call_int1:CallR X (.type "int") (fun xs H Q=>(∃i,xs=[.int i]∧Q (.int i) H)∨∃k,xs=[.bl k]∧Q (.int (if k then 1 else 0)) H):=by
 intro pins s σ H xs us Q I r h
 rcases h with ⟨i,rfl,q⟩ | ⟨k,rfl,q⟩
 ·obtain⟨u,rfl,t,rfl⟩:=vals1 r
  exact call_int_int ⟨.int i,H,I,⟨_,rfl⟩,q⟩
 ·obtain⟨u,rfl,r1⟩:=vals1 r
  cases r1
  exact call_int_bool ⟨.int (if k then 1 else 0),H,I.tok _,⟨_,rfl⟩,q⟩
theorem call_str_int:CallR X (.type "str") (fun xs H Q=>∃i,xs=[.int i]∧i.natAbs.log2 < 1920∧Q (.str (toString i)) H):=by
 intro pins s σ H xs us Q I r h
 obtain⟨i,rfl,hz,q⟩:=h
 obtain⟨u,rfl,t,rfl⟩:=vals1 r
 exact PySem.P.str_of_int hz ⟨.str _,H,I.tok _,⟨_,rfl⟩,q⟩
end
structure ObjM (h:Heap) (x dx C:Addr) (mA:Str->Option Value):Prop where
 obj:h.get? x=some (PySem.W.instObj C dx)
 ns:h.Ns1 dx mA
 ne:dx≠x
theorem lookIn_ns {h:Heap} {dx:Addr} {mA:Str->Option Value} (n:h.Ns1 dx mA):∃od,h.get? dx=some od∧∀name,PySem.W.lookIn name od=some (mA name):=by
 obtain⟨o,es,ep,ho,hd,hk,_,hm⟩:=n
 refine⟨o,ho,fun name=>?_⟩
 have e:=hm name
 unfold nsFind findBy at e
 rw [← Array.find?_toList] at e
 unfold PySem.W.lookIn
 rw [hd]
 dsimp only
 split
 ·rename_i y q
  rw [q] at e
  exact congrArg some e
 ·rename_i q
  rw [q] at e
  have a:es.toList.any (·.refKey)=false:=by
   rw [List.any_eq_false]
   intro y hy
   obtain⟨z,t,hkey⟩:=hk y (Array.mem_toList_iff.mp hy)
   simp [DictEntry.refKey,hkey]
  have a':¬es.toList.any (·.refKey)=true:=by rw [a];exact Bool.false_ne_true
  rw [if_neg a']
  exact congrArg some e
theorem ObjM.look {h:Heap} {x dx C:Addr} {mA:Str->Option Value} (I:ObjM h x dx C mA):∃od,PySem.W.InstAt h x (PySem.W.instObj C dx) C (some od)∧∀name,PySem.W.lookIn name od=some (mA name):=
 let ⟨od,ho,hl⟩:=lookIn_ns I.ns
 ⟨od,⟨I.obj,rfl,rfl,ho⟩,hl⟩
section
variable {prog:Program} {w:World} {A:Around} {E:Value->Shared->Prop} {s:Shared} {K:W.Frag} {x dx C f:Addr} {mA:Str->Option Value} {name:Str} {v:Value}
theorem get_map {expr:Bool} {Q:Value->Shared->Prop} (X:K.In s.heap) (I:ObjM s.heap x dx C mA) (hg:PySem.W.plainGet K C name=true) (hh:PySem.W.hasDictIn K C=true)
  (ha:PySem.W.findIn K (.ref C) name=some none) (hv:mA name=some v) (hv':PySem.W.handedIn v=true) (h:Q v { s with toks:=s.toks+1 }):
  wpAny (model prog w) A (getAttr (.ref x) name expr) Q E s:=by
 obtain⟨od,J,hl⟩:=I.look
 exact PySem.W.get_value X J (PySem.W.plainGet_of hg).1 (PySem.W.findObj_own hh ha rfl (by rw [hl,hv])) hv' h
theorem get_meth {pl:Sem Bool} {Q:Value×List Value->Shared->Prop} (X:K.In s.heap) (I:ObjM s.heap x dx C mA) (hg:PySem.W.plainGet K C name=true)
  (hf:PySem.W.findIn K (.ref C) name=some (some (.ref f))) (ht:PySem.W.isFn K (.ref f)=true) (hv:mA name=none) (h:Q (.ref f,[.ref x]) s):
  wpAny (model prog w) A (getMethod (.ref x) name pl) Q E s:=by
 obtain⟨od,J,hl⟩:=I.look
 exact PySem.W.method_fn X J (PySem.W.plainGet_of hg).1 (PySem.W.plainGet_of hg).2 hf (beq_iff_eq.mp ht) (by show (PySem.W.lookIn name od).map (·.isSome)=some false;rw [hl,hv];rfl) h
theorem set_map {ns:List Str} {Q:Unit->Shared->Prop} (X:K.In s.heap) (I:ObjM s.heap x dx C mA)
  (hs:PySem.W.findIn K (.ref C) "__setattr__" = some (some (.builtin "object.__setattr__"))) (hp:PySem.W.plainOver K C=true) (ht:PySem.W.takerIn K C name=some none) (hh:PySem.W.hasDictIn K C=true)
  (hw:PySem.Within mA ns) (hsz:ns.length<=sizeLine)
  (h:∀h',ObjM h' x dx C (fun y=>if y=name then some v else mA y)->Heap.SameBut dx s.heap h'->Q () { s with heap:=h',toks:=s.toks+2 }):
  wpAny (model prog w) A (setAttr (.ref x) name v) Q E s:=by
 obtain⟨od,J,hl⟩:=I.look
 refine PySem.W.set_plain X J hs (PySem.W.osa_open (s:={ s with toks:=s.toks+1 }) (r:=none) X J hp ht fun b=>?_)
 obtain⟨cd,hc,hd'⟩:=PySem.W.any_some hh
 have hx:s.heap.get? x=some ⟨.ref C,some dx,.plain,#[]⟩:=I.obj
 refine wpAny_bind (wpAny_pure (wpAny_bind (wpAny_bind (wpAny_loadPart hx (wpAny_bind (PySem.W.Looks.here (s:={ s with toks:=s.toks+1 }) (PySem.W.looks_clsIn X hc) ?_))))))
 rw [hd']
 refine wpAny_pure (a:=some dx) (wpAny_bind (wpAny_pure (wpAny_bind ?_)))
 refine wpAny_nsSet1 (s:={ s with toks:=s.toks+1 }) I.ns fun h' hn2 hs2=>?_
 obtain⟨oD,esD,epD,hoD,hdD,hcD⟩:=hn2.count (PySem.Within.cons name v hw)
 refine wpAny_bind (wpAny_lookBehind hoD (by rw [hdD];exact pastItsLine_dict (Nat.le_trans hcD (by rw [List.length_cons];omega))) ?_)
 exact wpAny_pure (h _ ⟨(hs2.2 _ (Ne.symm I.ne)).trans I.obj,hn2,I.ne⟩ hs2)
theorem make_map {R:Result->Shared->Prop} {vs:List Value} {kw:List (Str×Value)} (X:K.In s.heap) (hm:PySem.W.makesIn K C=true)
  (hi:PySem.W.findIn K (.ref C) "__init__" = some (some (.ref f))) (hf:PySem.W.typeIn K (.ref f)=some (.type "function"))
  (h:codeAny (model prog w) (A.under (.builtin "type.__call__" ⟨.ref C :: vs,kw⟩)) (.call (.ref f) ⟨.ref (s.heap.objs.size+1) :: vs,kw⟩) (PySem.W.InitBack (s.heap.objs.size+1) R)
   { s with heap:=(s.heap.push PySem.W.emptyDict).push (PySem.W.instObj C s.heap.objs.size) }):
  codeAny (model prog w) A (.call (.ref C) ⟨vs,kw⟩) R s:=by
 obtain⟨hh,g,d,t,os⟩:=s
 exact PySem.W.make_core (PySem.W.makes_of X hm) (PySem.W.looks_findIn X hi) (fun self=>PySem.W.bind_fn X self hf) (.inl rfl) h
end
def putF (f:Str) (v:V):List (Str×V)->List (Str×V)
 | []=>[(f,v)]
 |(g,x) :: r=>if g=f then (g,v) :: r else (g,x) :: putF f v r
theorem lookup_putF (f g:Str) (v:V):∀fs:List (Str×V),(putF f v fs).lookup g=if g=f then some v else fs.lookup g
 | []=>by
  show List.lookup g [(f,v)]=_
  by_cases h:g=f
  ·have hb:(g == f)=true:=beq_iff_eq.mpr h
   simp only [List.lookup,hb,if_pos h]
  ·have hb:(g == f)=false:=beq_eq_false_iff_ne.mpr h
   simp only [List.lookup,hb,if_neg h]
 |(k,x) :: r=>by
  have ih:=lookup_putF f g v r
  rw [show putF f v ((k,x) :: r)=(if k=f then (k,v) :: r else (k,x) :: putF f v r) from rfl]
  by_cases hk:k=f
  ·rw [if_pos hk]
   by_cases h:g=k
   ·have hb:(g == k)=true:=beq_iff_eq.mpr h
    simp only [List.lookup,hb,if_pos (h.trans hk)]
   ·have hb:(g == k)=false:=beq_eq_false_iff_ne.mpr h
    simp only [List.lookup,hb,if_neg (fun e:g=f=>h (e.trans hk.symm))]
  ·rw [if_neg hk]
   by_cases h:g=k
   ·have hb:(g == k)=true:=beq_iff_eq.mpr h
    simp only [List.lookup,hb,if_neg (fun e:g=f=>hk (h.symm.trans e))]
   ·have hb:(g == k)=false:=beq_eq_false_iff_ne.mpr h
    simp only [List.lookup,hb]
    exact ih
theorem keys_putF (f:Str) (v:V):∀fs:List (Str×V),f∈(putF f v fs).map (·.1)∧∀g,g∈fs.map (·.1)->g∈(putF f v fs).map (·.1)
 | []=>⟨by simp [putF],fun g h=>by simp at h⟩
 |(k,x) :: r=>by
  obtain⟨i1,i2⟩:=keys_putF f v r
  rw [show putF f v ((k,x) :: r)=(if k=f then (k,v) :: r else (k,x) :: putF f v r) from rfl]
  by_cases hk:k=f
  ·rw [if_pos hk]
   subst hk
   exact⟨by simp,fun g h=>by simpa using h⟩
  ·rw [if_neg hk]
   refine⟨?_,fun g h=>?_⟩
   ·rw [List.map_cons]
    exact List.mem_cons_of_mem _ i1
   ·rw [List.map_cons] at h ⊢
    rcases List.mem_cons.mp h with e | e
    ·exact List.mem_cons.mpr (.inl e)
    ·exact List.mem_cons_of_mem _ (i2 g e)
theorem length_putF (f:Str) (v:V):∀fs:List (Str×V),(putF f v fs).length<=fs.length+1
 | []=>by simp [putF]
 |(k,x) :: r=>by
  have ih:=length_putF f v r
  rw [show putF f v ((k,x) :: r)=(if k=f then (k,v) :: r else (k,x) :: putF f v r) from rfl]
  by_cases hk:k=f
  ·rw [if_pos hk,List.length_cons,List.length_cons];omega
  ·rw [if_neg hk,List.length_cons,List.length_cons];omega
theorem RelO.some_of {v:V} {o:Option Value} (r:RelO (some v) o):∃u,o=some u∧RelV v u:=by
 cases o with
 | none=>exact (show False from r).elim
 | some u=>exact⟨u,rfl,r⟩
theorem RelO.none_of {o:Option Value} (r:RelO none o):o=none:=by
 cases o with
 | none=>rfl
 | some u=>exact (show False from r).elim
theorem handed_of {v:V} {u:Value} (r:RelV v u):PySem.W.handedIn u=true:=by
 cases v with
 | non=>cases (show u=Value.none from r);rfl
 | bl b=>cases (show u=Value.bool b from r);rfl
 | int i=>obtain⟨t,e⟩:=(show ∃t,u=Value.int i t from r);cases e;rfl
 | str x=>obtain⟨t,e⟩:=(show ∃t,u=Value.str x t from r);cases e;rfl
 | byt b=>obtain⟨t,e⟩:=(show ∃t,u=Value.bytes b t from r);cases e;rfl
 | flt b=>obtain⟨t,e⟩:=(show ∃t,u=Value.float b t from r);cases e;rfl
 | ref a=>cases (show u=Value.ref a from r);rfl
 | ty n=>cases (show u=Value.type n from r);rfl
section
variable {P:Program} {w:World} {H H':Hp} {h h':Heap} {a C dx:Addr} {fs fs':List (Str×V)}
theorem ins_get (hok:HOk P w H h) (e:H a=some (.ins C dx fs)):∃mA,ObjM h a dx C mA∧(∀f,RelO (fs.lookup f) (mA f))∧PySem.Within mA (fs.map (·.1))∧fs.length<=1000∧H dx=some (.own a):=by
 obtain⟨d,z,ne,ob,mA,n,r,q⟩:=(show ObjOk P w H h a (.ins C dx fs) from hok a _ e)
 exact⟨mA,⟨ob,n,ne⟩,r,q,z,d⟩
end
structure Cls (K:W.Frag) (C:Addr):Prop where
 pg:PySem.W.plainGet K C Str.empty=true
 hd:PySem.W.hasDictIn K C=true
 po:PySem.W.plainOver K C=true
 sa:PySem.W.findIn K (.ref C) "__setattr__" = some (some (.builtin "object.__setattr__"))
theorem Cls.get {K:W.Frag} {C:Addr} (c:Cls K C) (f:Str):PySem.W.plainGet K C f=true:=c.pg
def NoAttr (K:W.Frag) (C:Addr) (f:Str):Prop:=PySem.W.findIn K (.ref C) f=some none
theorem NoAttr.taker {K:W.Frag} {C:Addr} {f:Str} (n:NoAttr K C f):PySem.W.takerIn K C f=some none:=by
 unfold PySem.W.takerIn
 rw [show PySem.W.findIn K (.ref C) f=some none from n]
 rfl
structure Meth (K:W.Frag) (C:Addr) (m:Str) (f:Addr):Prop where
 at_:PySem.W.findIn K (.ref C) m=some (some (.ref f))
 fn:PySem.W.isFn K (.ref f)=true
 kp:PySem.W.keepIn K (.ref f)=true
section
variable {X:Cx} {pins:List (Addr×Obj)} {σ:St} {H:Hp} {s:Shared} {a C dx:Addr} {fs:List (Str×V)} {f:Str} {v:V} {A:Around} {E:Value->Shared->Prop}
theorem getattr_ok {b:Bool} {Q:Value->Shared->Prop} (I:Inv X pins σ H s) (e:H a=some (.ins C dx fs)) (c:Cls X.K C) (n:NoAttr X.K C f) (l:fs.lookup f=some v)
  (h:∀u s',Inv X pins σ H s'->RelV v u->Q u s'):wpAny (model X.prog X.w) A (getAttr (.ref a) f b) Q E s:=by
 obtain⟨mA,O,r,_,_,_⟩:=ins_get I.hok e
 obtain⟨u,hu,ru⟩:=RelO.some_of (v:=v) (o:=mA f) (by rw [← l];exact r f)
 exact get_map I.kIn O (c.get f) c.hd n hu (handed_of ru) (h u _ (I.tok _) ru)
theorem getmeth_ok {m:Str} {g:Addr} {pl:Sem Bool} {Q:Value×List Value->Shared->Prop} (I:Inv X pins σ H s) (e:H a=some (.ins C dx fs)) (c:Cls X.K C) (k:Meth X.K C m g) (l:fs.lookup m=none)
  (h:Q (.ref g,[.ref a]) s):wpAny (model X.prog X.w) A (getMethod (.ref a) m pl) Q E s:=by
 obtain⟨mA,O,r,_,_,_⟩:=ins_get I.hok e
 have hn:mA m=none:=RelO.none_of (by rw [← l];exact r m)
 exact get_meth I.kIn O (c.get m) k.at_ k.fn hn h
theorem setattr_ok {y:V} {u:Value} {Q:Unit->Shared->Prop} (I:Inv X pins σ H s) (e:H a=some (.ins C dx fs)) (c:Cls X.K C) (n:NoAttr X.K C f) (hl:fs.length < 1000) (ry:RelV y u)
  (h:∀s',Inv X pins σ (upd H a (.ins C dx (putF f y fs))) s'->Q () s'):wpAny (model X.prog X.w) A (setAttr (.ref a) f u) Q E s:=by
 obtain⟨mA,O,r,wi,_,ho⟩:=ins_get I.hok e
 have hz:(fs.map (·.1)).length<=sizeLine:=by rw [List.length_map,sizeLine_eq];omega
 refine set_map I.kIn O c.sa c.po n.taker c.hd wi hz fun h' O' sb=>h _ ?_
 have hd:∃o,h'.get? dx=some o:=let ⟨o,_,_,e',_⟩:=O'.ns;⟨o,e'⟩
 refine I.write (x:=a) (e:=dx) (by rw [e];exact True.intro) (.inr ho) (fun b q hb z=>(sb.2 b hb).trans z) hd ?_
 refine⟨by rw [upd_ne O.ne];exact ho,?_,O.ne,O'.obj,_,O'.ns,fun g=>?_,fun g hg=>?_⟩
 ·have:=length_putF f y fs;omega
 ·show RelO ((putF f y fs).lookup g) (if g=f then some u else mA g)
  rw [lookup_putF]
  by_cases q:g=f
  ·rw [if_pos q,if_pos q];exact ry
  ·rw [if_neg q,if_neg q];exact r g
 ·by_cases q:g=f
  ·rw [q];exact (keys_putF f y fs).1
  ·refine (keys_putF f y fs).2 g (wi g fun z=>hg ?_)
   show (if g=f then some u else mA g)=none
   rw [if_neg q];exact z
theorem Inv.made (I:Inv X pins σ H s):Inv X pins σ (upd (upd H s.heap.objs.size (.own (s.heap.objs.size+1))) (s.heap.objs.size+1) (.ins C s.heap.objs.size []))
  { s with heap:=(s.heap.push PySem.W.emptyDict).push (PySem.W.instObj C s.heap.objs.size) }:=by
 have e1:(s.heap.push PySem.W.emptyDict).get? s.heap.objs.size=some PySem.W.emptyDict:=Heap.get?_push_size s.heap rfl
 have e2:((s.heap.push PySem.W.emptyDict).push (PySem.W.instObj C s.heap.objs.size)).get? (s.heap.objs.size+1)=some (PySem.W.instObj C s.heap.objs.size):=by
  have:=Heap.get?_push_size (s.heap.push PySem.W.emptyDict) (o:=PySem.W.instObj C s.heap.objs.size) rfl
  rwa [Heap.size_push] at this
 have e3:(s.heap.push PySem.W.emptyDict).Ns s.heap.objs.size (fun _=>none):=⟨PySem.W.emptyDict,#[],_,e1,rfl,(fun e he=>absurd he (by simp)),fun _=>rfl⟩
 have I1:=I.laid (a:=s.heap.objs.size) (o:=.own (s.heap.objs.size+1)) (h':=s.heap.push PySem.W.emptyDict) (t':=s.toks) (fun b u q=>Heap.get?_push_of_some _ q) (Nat.le_refl _) ⟨_,e1⟩
 refine I1.laid (a:=s.heap.objs.size+1) (o:=.ins C s.heap.objs.size []) (t':=s.toks) (fun b u q=>Heap.get?_push_of_some _ q) (Nat.le_of_eq (Heap.size_push _ _)) ?_
 have ne:s.heap.objs.size≠s.heap.objs.size+1:=Nat.ne_of_lt (Nat.lt_succ_self _)
 refine⟨by rw [upd_ne ne,upd_same],Nat.zero_le _,ne,e2,fun _=>none,(Heap.Ns1.of_empty e3).at fun o q=>Heap.get?_push_of_some _ q,fun _=>True.intro,fun y hy=>absurd rfl hy⟩
theorem attr_of {prog:Program} {w:World} {env:Env} {e:Expr} {f:Str} {pos:Pos} {s:Shared} {Q:Value->Shared->Prop} (hb:attributeBase e f env (eval e env)=eval e env)
  (h:wpAny (model prog w) A (eval e env) (fun o s₁=>wpAny (model prog w) A (getAttr o f true) Q E s₁) E s):wpAny (model prog w) A (eval (.Attribute e f pos) env) Q E s:=
 Attribute_any_ h (by rw [arm_eval_Attribute,hb])
end
def tFld (K:W.Frag) (ta:TE) (f:Str):TE:=fun σ H Q=>ta σ H fun x H1=>∃a C dx fs v,x=.ref a∧H1 a=some (.ins C dx fs)∧Cls K C∧NoAttr K C f∧fs.lookup f=some v∧Q v H1
def sFld (K:W.Frag) (ta tv:TE) (f:Str):TS:=fun D σ H=>tv σ H fun y H1=>ta σ H1 fun x H2=>∃a C dx fs,x=.ref a∧H2 a=some (.ins C dx fs)∧Cls K C∧NoAttr K C f∧fs.length < 1000∧
 D.nx σ (upd H2 a (.ins C dx (putF f y fs)))
section
variable {X:Cx} {o e value:Expr} {f:Str} {pos pos' tpos:Pos} {ta tv:TE}
theorem pe_fld (he:PE X e ta) (hb:attributeBase e f X.env (eval e X.env)=eval e X.env):PE X (.Attribute e f pos) (tFld X.K ta f):=by
 intro pins s σ H Q I h
 refine attr_of hb (thn (he pins s σ H _ I h) fun u s1 ⟨x,H1,I1,rx,a,C,dx,fs,v,ex,ea,c,n,l,q⟩=>?_)
 subst ex
 obtain rfl:u=Value.ref a:=rx
 exact getattr_ok I1 ea c n l fun u' s2 I2 ru=>⟨v,H1,I2,ru,q⟩
theorem ps_fld (ha:PE X o ta) (hv:PE X value tv) (hs:swapsWith value (some (.Attribute o f pos')) pos.line X.env=pure false):PS X (.Assign [.Attribute o f pos'] value pos) (sFld X.K ta tv f):=by
 intro pins s σ H D I h
 refine plainObj_wpAny_Assign_Attribute (thn (hv pins s σ H _ I h) fun u s1 ⟨y,H1,I1,ry,q⟩=>thn (ha pins s1 σ H1 _ I1 q) fun ov s2 ⟨x,H2,I2,rx,a,C,dx,fs,ex,ea,c,n,l,q2⟩=>?_) hs
 subst ex
 obtain rfl:ov=Value.ref a:=rx
 exact setattr_ok I2 ea c n l ry fun s3 I3=>⟨σ,_,I3,q2⟩
theorem methcall_of {pl:Sem Bool} {m:Str} {apos:Pos} {args:List Expr} {pins:List (Addr×Obj)} {s:Shared} {σ:St} {H:Hp} {Q:Value->Shared->Prop} {te:TE} (he:PE X e te) (I:Inv X pins σ H s)
  (h:te σ H fun x H1=>∃a C dx fs g,x=.ref a∧H1 a=some (.ins C dx fs)∧Cls X.K C∧Meth X.K C m g∧fs.lookup m=none∧
   ∀s1,Inv X pins σ H1 s1->wpAny (model X.prog X.w) X.A (callWith pos (.ref g) [.ref a] (backTo pos (starEach args X.env)) (backToKw pos (keywordEach [] X.env))) Q X.xe s1)
  (ht:eval (.Call (.Attribute e m apos) args [] pos) X.env=(do
   let ov ← eval e X.env
   standAt apos.atName
   let (f,first) ← holding [ov] (getMethod ov m pl)
   callWith pos f first (backTo pos (starEach args X.env)) (backToKw pos (keywordEach [] X.env)))):
  wpAny (model X.prog X.w) X.A (eval (.Call (.Attribute e m apos) args [] pos) X.env) Q X.xe s:=by
 refine PySem.W.methodCall_KW (pl:=pl) (thn (he pins s σ H _ I h) fun u s1 ⟨x,H1,I1,rx,a,C,dx,fs,g,ex,ea,c,k,l,q⟩=>?_) ht
 subst ex
 obtain rfl:u=Value.ref a:=rx
 exact getmeth_ok I1 ea c k l (q s1 I1)
end
section
variable {X:Cx} {pins:List (Addr×Obj)} {σ:St} {H:Hp} {s:Shared} {A:Around} {E:Value->Shared->Prop} {Q:Value->Shared->Prop} {c:Value} {b:Bool}
inductive TyOf (K:W.Frag) (H:Hp):V->Value->Prop where
 | non:TyOf K H .non (.type "NoneType")
 | bl (x:Bool):TyOf K H (.bl x) (.type "bool")
 | int (i:Int):TyOf K H (.int i) (.type "int")
 | str (x:Str):TyOf K H (.str x) (.type "str")
 | flt (x:UInt64):TyOf K H (.flt x) (.type "float")
 | lst {a:Addr} {xs:List V} (e:H a=some (.lst xs)):TyOf K H (.ref a) (.type "list")
 | frz {a:Addr} {o:Obj} {xs:List V} (e:H a=some (.frz o (.lst xs))):TyOf K H (.ref a) (.type "list")
 | tup {a:Addr} {xs:List V} (e:H a=some (.tup xs)):TyOf K H (.ref a) (.type "tuple")
 | dK {a:Addr} {kvs:List (Key×V)} (e:H a=some (.dK kvs)):TyOf K H (.ref a) (.type "dict")
 | dT {a:Addr} {kvs:List (List Key×V)} (e:H a=some (.dT kvs)):TyOf K H (.ref a) (.type "dict")
 | ins {a C dx:Addr} {fs:List (Str×V)} (e:H a=some (.ins C dx fs)) (cl:Cls K C) (ha:PySem.W.findIn K (.ref C) "__class__" = some (some (.builtin "object.__class__")))
   (hn:PySem.W.specialIn K (.builtin "object.__class__") "__get__" = some (some (.builtin "getset_descriptor.__get__"))) (htk:PySem.W.takesIn K (.builtin "object.__class__")=some true)
   (hm:PySem.W.mroIn K C (.type "object")=some true):TyOf K H (.ref a) (.ref C)
theorem isinst_ok {x:V} {u t:Value} (I:Inv X pins σ H s) (rx:RelV x u) (ty:TyOf X.K H x t) (e:PySem.W.kitOne X.K t c=some b) (h:∀tk,Q (.bool b) { s with toks:=tk }):
  wpAny (model X.prog X.w) A (call (.builtin "isinstance") [u,c]) Q E s:=by
 cases ty with
 | non=>cases (show u=Value.none from rx);exact PySem.W.kia_one PySem.W.kitx_none I.kIn True.intro e (fun z=>nomatch z) h
 | bl y=>cases (show u=Value.bool y from rx);exact PySem.W.kia_one PySem.W.kitx_bool I.kIn True.intro e (fun z=>nomatch z) h
 | int i=>obtain⟨t,q⟩:=(show ∃t,u=Value.int i t from rx);cases q;exact PySem.W.kia_one PySem.W.kitx_int I.kIn True.intro e (fun z=>nomatch z) h
 | str y=>obtain⟨t,q⟩:=(show ∃t,u=Value.str y t from rx);cases q;exact PySem.W.kia_one PySem.W.kitx_str I.kIn True.intro e (fun z=>nomatch z) h
 | flt y=>obtain⟨t,q⟩:=(show ∃t,u=Value.float y t from rx);cases q;exact PySem.W.kia_one PySem.W.kitx_float I.kIn True.intro e (fun z=>nomatch z) h
 | @lst a xs ea=>
  cases (show u=Value.ref a from rx)
  obtain⟨_,_,n,_,h1⟩:=(show ObjOk X.prog X.w H s.heap a (.lst xs) from I.hok a _ ea)
  exact PySem.W.kia_one PySem.W.kitx_list I.kIn ⟨_,h1,rfl⟩ e (fun z=>nomatch z) h
 | @frz a ob xs ea=>
  cases (show u=Value.ref a from rx)
  obtain⟨_,_,_,n,_,h1⟩:=(show ObjOk X.prog X.w H s.heap a (.frz ob (.lst xs)) from I.hok a _ ea)
  exact PySem.W.kia_one PySem.W.kitx_list I.kIn ⟨_,h1,rfl⟩ e (fun z=>nomatch z) h
 | @tup a xs ea=>
  cases (show u=Value.ref a from rx)
  obtain⟨_,_,_,p⟩:=(show ObjOk X.prog X.w H s.heap a (.tup xs) from I.hok a _ ea)
  obtain⟨o,h1,h2,_⟩:=p
  exact PySem.W.kia_one PySem.W.kitx_tuple I.kIn ⟨o,h1,h2⟩ e (fun z=>nomatch z) h
 | @dK a kvs ea=>
  cases (show u=Value.ref a from rx)
  obtain⟨_,_,vs,_,p⟩:=(show ObjOk X.prog X.w H s.heap a (.dK kvs) from I.hok a _ ea)
  obtain⟨o,es,ep,h1,h2,_⟩:=p
  exact PySem.W.kia_one PySem.W.kitx_dict I.kIn ⟨o,h1,h2.1⟩ e (fun z=>nomatch z) h
 | @dT a kvs ea=>
  cases (show u=Value.ref a from rx)
  obtain⟨_,_,xs,_,o,es,ep,h1,h2,_⟩:=(show ObjOk X.prog X.w H s.heap a (.dT kvs) from I.hok a _ ea)
  exact PySem.W.kia_one PySem.W.kitx_dict I.kIn ⟨o,h1,h2.1⟩ e (fun z=>nomatch z) h
 | @ins a C dx fs ea cl ha hn htk hm=>
  cases (show u=Value.ref a from rx)
  obtain⟨mA,O,_⟩:=ins_get I.hok ea
  obtain⟨od,J,_⟩:=O.look
  exact PySem.W.kia_one (PySem.W.kitx_own (cl.get _) cl.hd ha hn htk hm) I.kIn J e (fun z=>nomatch z) h
end
structure Room (k:Nat) (A:Around):Prop where
 hd:A.handled=none
 dp:A.depth+3 * k+5 < recursionLimit
 un:A.units+16 * k+200 < cLine
theorem Room.mono {j k:Nat} {A:Around} (r:Room k A) (h:j<=k):Room j A:=⟨r.hd,by have:=r.dp;omega,by have:=r.un;omega⟩
theorem Room.deeper {k:Nat} {A:Around} (r:Room (k+1) A) (env:Env):Room k (A.deeper env):=
 ⟨r.hd,by have:=r.dp;show A.depth+1+3 * k+5 < _;omega,by have:=r.un;show A.units+3+16 * k+200 < _;omega⟩
theorem make_depth {A:Around} {C:Addr} {us:List Value} {kw:List (Str×Value)}:(A.under (.builtin "type.__call__" ⟨.ref C :: us,kw⟩)).depth=A.depth+1:=by
 first | rfl | simp [Around.under,Code.weight,Code.isCreation,Code.isGuard,Code.isCaller,Code.frames,Code.isFrame,guardIds]
theorem make_units {A:Around} {C:Addr} {us:List Value} {kw:List (Str×Value)}:(A.under (.builtin "type.__call__" ⟨.ref C :: us,kw⟩)).units=A.units+1:=by
 first | rfl | simp [Around.under,Code.cUnits,Code.frames,Code.isFrame]
theorem Room.make {k:Nat} {A:Around} (r:Room (k+1) A) (C:Addr) (us:List Value) (kw:List (Str×Value)):Room k (A.under (.builtin "type.__call__" ⟨.ref C :: us,kw⟩)):=
 ⟨r.hd,by have:=r.dp;rw [make_depth];omega,by have:=r.un;rw [make_units];omega⟩
theorem Room.depth {k:Nat} {A:Around} (r:Room k A):A.depth < recursionLimit:=by have:=r.dp;omega
theorem Room.units {k:Nat} {A:Around} (r:Room k A):A.units+64 < cLine:=by have:=r.un;omega
def tNil:TA:=fun _ H Q=>Q [] H
def tCons (ta:TE) (tr:TA):TA:=fun σ H Q=>ta σ H fun x H1=>tr σ H1 fun xs H2=>Q (x :: xs) H2
section
variable {X:Cx} {e:Expr} {es:List Expr} {te:TE} {t:TA} {pos:Pos}
theorem pa_nil:PA X [] tNil:=fun _ _ _ _ H Q I h=>Calls.spliced_nil ⟨[],H,I,.nil,h⟩
theorem pa_cons (ha:PE X e te) (hr:PA X es t) (hs:starEach (e :: es) X.env=(false,eval e X.env) :: starEach es X.env:=by rfl):PA X (e :: es) (tCons te t):=by
 intro pos pins s σ H Q I h
 rw [hs]
 show wpAny _ _ (spliced ((false,eval e X.env) :: backTo pos (starEach es X.env))) _ _ s
 refine Calls.spliced_cons (thn (ha pins s σ H _ I h) fun u s1 ⟨x,H1,I1,r1,q1⟩=>?_)
 exact thn (hr pos pins s1 σ H1 _ I1 q1) fun us s2 ⟨xs,H2,I2,r2,q2⟩=>⟨x :: xs,H2,I2,.cons r1 r2,q2⟩
def tTup (t:TA):TE:=fun σ H Q=>t σ H fun xs H1=>xs.length<=sizeLine∧∀p,H1 p=none->Q (.ref p) (upd H1 p (.tup xs))
def tLst (t:TA):TE:=fun σ H Q=>t σ H fun xs H1=>xs.length<=sizeLine∧∀p,H1 p=none->Q (.ref p) (upd H1 p (.lst xs))
theorem pe_tup {x1} (h:PA X es t):PE X (.Tuple es x1 pos) (tTup t):=by
 intro pins s σ H Q I hq
 refine wpAny_Tuple_spliced (thn (h pos pins s σ H _ I hq) fun us s1 ⟨xs,H1,I1,r,z,q⟩=>⟨by rw [← r.length];exact z,?_⟩)
 have hf:H1 s1.heap.objs.size=none:=I1.hok.fresh (Nat.le_refl _)
 refine⟨.ref s1.heap.objs.size,upd H1 s1.heap.objs.size (.tup xs),I1.laid (t':=s1.toks) (fun b u e=>Heap.get?_push_of_some _ e) (Nat.le_refl _) ?_,rfl,q _ hf⟩
 exact⟨z,us,r,⟨_,Heap.get?_push_size _ rfl,rfl,_,rfl⟩⟩
theorem pe_lst (h:PA X es t):PE X (.List es pos) (tLst t):=by
 intro pins s σ H Q I hq
 refine wpAny_List_spliced (thn (h pos pins s σ H _ I hq) fun us s1 ⟨xs,H1,I1,r,z,q⟩=>⟨by rw [← r.length];exact z,?_⟩)
 have hf:H1 s1.heap.objs.size=none:=I1.hok.fresh (Nat.le_refl _)
 refine⟨.ref s1.heap.objs.size,upd H1 s1.heap.objs.size (.lst xs),I1.laid (t':=s1.toks) (fun b u e=>Heap.get?_push_of_some _ e) (Nat.le_refl _) ?_,rfl,q _ hf⟩
 exact⟨z,us,0,r,Heap.get?_push_size _ rfl⟩
end
abbrev Sp:=List V->Hp->VK->XK->Prop
abbrev CXT:=List Env->Hp->Shared->XK->Value->Shared->Prop
structure Env0 (P:Program) (w:World) (K:W.Frag) (mg:Str->Option Value) (base:Heap) (A:Around) (outer:List Env) (s:Shared) (H:Hp):Prop where
 frames:A.frames=some outer
 mod:Mod K mg base
 bs:∀b o,base.get? b=some o->s.heap.get? b=some o∧H b=none
 bsz:base.objs.size<=s.heap.objs.size
 funs:s.heap.FunFrames base outer
 frf:∀b∈frs outer,H b=none
 hok:HOk P w H s.heap
 bare:AllBare s.gens
def CE (outer:List Env) (P:Program) (w:World) (H:Hp) (s:Shared) (Q:VK) (u:Value) (s':Shared):Prop:=
 ∃v H',s'.os=s.os∧AllBare s'.gens∧Un (frs outer) [] H H' s.heap s'.heap∧HOk P w H' s'.heap∧RelV v u∧Q v H'
def CR (CX:CXT) (outer:List Env) (P:Program) (w:World) (H:Hp) (s:Shared) (Q:VK) (E:XK) (r:Result) (s':Shared):Prop:=
 match r with
 | .ok (.ret u)=>CE outer P w H s Q u s'
 | .ok _=>False
 | .error e=>CX outer H s E e s'
structure FnOk (P:Program) (w:World) (K:W.Frag) (mg:Str->Option Value) (base:Heap) (CX:CXT) (k:Nat) (f:Addr) (fd:FuncData) (ps:List Str) (sp:Sp):Prop where
 len:∀vs H Q E,sp vs H Q E->vs.length=ps.length
 run:∀(A:Around) (outer:List Env) (s:Shared) (H:Hp) (args:Args) (us:List Value) (vs:List V) (Q:VK) (E:XK),Room k A->Env0 P w K mg base A outer s H->BindsTo s fd args (ps.zip us)->Vals vs us->sp vs H Q E->
  codeAny (model P w) A (.call (.ref f) args) (CR CX outer P w H s Q E) s
theorem FnOk.mono {P:Program} {w:World} {K:W.Frag} {mg:Str->Option Value} {base:Heap} {CX:CXT} {j k:Nat} {f:Addr} {fd:FuncData} {ps:List Str} {sp:Sp} (F:FnOk P w K mg base CX j f fd ps sp) (h:j<=k):
  FnOk P w K mg base CX k f fd ps sp:=⟨F.len,fun A outer s H args us vs Q E hr=>F.run A outer s H args us vs Q E (hr.mono h)⟩
theorem Env0.make {P:Program} {w:World} {K:W.Frag} {mg:Str->Option Value} {base:Heap} {A:Around} {outer:List Env} {s:Shared} {H:Hp} (e:Env0 P w K mg base A outer s H) (C:Addr) (us:List Value) (kw:List (Str×Value)):
  Env0 P w K mg base (A.under (.builtin "type.__call__" ⟨.ref C :: us,kw⟩)) outer s H:=⟨by first | exact e.frames | (simpa [Around.under,Code.envs,Code.isFrame,pushEnvs] using e.frames),e.mod,e.bs,e.bsz,e.funs,e.frf,e.hok,e.bare⟩
section
variable {X:Cx} {pins:List (Addr×Obj)} {σ:St} {H:Hp} {s s':Shared}
theorem Inv.env0 (I:Inv X pins σ H s):Env0 X.prog X.w X.K X.mg X.base X.A X.stack s H:=
 ⟨I.ok.frames,I.ok.mod,I.bs,Nat.le_trans I.ok.bsz I.sz,I.stack,I.stkFree,I.hok,I.bare⟩
theorem Inv.after {Q:VK} {u:Value} (I:Inv X pins σ H s) (h:CE X.stack X.prog X.w H s Q u s'):EP X pins σ Q u s':=by
 obtain⟨v,H',os,bare,un,hok,r,q⟩:=h
 obtain⟨hh,g,d,t,os'⟩:=s'
 obtain rfl:os'=s.os:=os
 exact⟨v,H',I.call (h':=hh) (g':=g) (d':=d) (t':=t) (ch:=[]) un hok bare (fun b z=>absurd z (by simp)),r,q⟩
end
def tCall (sp:Sp) (dvs:List V) (E:XK) (t:TA):TE:=fun σ H Q=>t σ H fun vs H1=>sp (vs++dvs) H1 Q E
def tMeth (C:Addr) (m:Str) (sp:Sp) (dvs:List V) (E:XK) (ta:TE) (t:TA):TE:=fun σ H Q=>ta σ H fun x H1=>∃a dx fs,x=.ref a∧H1 a=some (.ins C dx fs)∧fs.lookup m=none∧
 t σ H1 fun vs H2=>sp (x :: (vs++dvs)) H2 Q E
def tMake (C:Addr) (sp:Sp) (dvs:List V) (E:XK) (t:TA):TE:=fun σ H Q=>t σ H fun vs H1=>∀x dx,H1 x=none->H1 dx=none->dx≠x->
 sp (.ref x :: (vs++dvs)) (upd (upd H1 dx (.own x)) x (.ins C dx [])) (fun v H2=>v=.non∧Q (.ref x) H2) E
def Binds (K:W.Frag) (fd:FuncData) (ps:List Str) (ds:List Value):Prop:=
 ∀(s:Shared) (us:List Value),K.In s.heap->(us++ds).length=ps.length->BindsTo s fd ⟨us,[]⟩ (ps.zip (us++ds))
theorem Binds.all {K:W.Frag} {fd:FuncData} {ps:List Str} (h:∀us:List Value,us.length=ps.length->bindArgs fd ⟨us,[]⟩=pure (ps.zip us)):Binds K fd ps []:=fun s us _ hl=>by
 rw [List.append_nil] at hl ⊢
 exact .of_eq (h us hl)
def Passes (CX:CXT) (X:Cx) (E:XK):Prop:=∀(pins:List (Addr×Obj)) (σ:St) (H:Hp) (s:Shared) (e:Value) (s':Shared),Inv X pins σ H s->CX X.stack H s E e s'->X.xe e s'
section
variable {X:Cx} {CX:CXT} {k:Nat} {f C:Addr} {fd:FuncData} {ps:List Str} {sp:Sp} {dvs:List V} {ds:List Value} {E:XK} {x m:Str} {p pos apos:Pos} {e o:Expr} {es:List Expr} {ta:TE} {t:TA}
theorem run_fn {pins:List (Addr×Obj)} {σ:St} {H:Hp} {s:Shared} {Q:VK} {us:List Value} {vs:List V} (F:FnOk X.prog X.w X.K X.mg X.base CX k f fd ps sp) (hr:Room k X.A) (hb:Binds X.K fd ps ds) (hd:Vals dvs ds) (hx:Passes CX X E)
  (I:Inv X pins σ H s) (r:Vals vs us) (h:sp (vs++dvs) H Q E):wpAny (model X.prog X.w) X.A (call (.ref f) us) (EP X pins σ Q) X.xe s:=by
 have r2:Vals (vs++dvs) (us++ds):=r.append hd
 have hl:(us++ds).length=ps.length:=by rw [← r2.length];exact F.len _ _ _ _ h
 refine wpAny_call (codeAny_mono (F.run X.A X.stack s H ⟨us,[]⟩ (us++ds) (vs++dvs) Q E hr I.env0 (hb s us I.kIn hl) r2 h) fun r s' hq=>?_)
 cases r with
 | error e=>exact hx pins σ H s e s' I hq
 | ok fl=>
  cases fl with
  | ret u=>exact I.after hq
  | next=>exact False.elim hq
  | brk=>exact False.elim hq
  | cont=>exact False.elim hq
theorem pe_call (F:FnOk X.prog X.w X.K X.mg X.base CX k f fd ps sp) (hr:Room k X.A) (hg:Gl X x) (hm:X.mg x=some (.ref f)) (hk:PySem.W.keepIn X.K (.ref f)=true) (hb:Binds X.K fd ps ds) (hd:Vals dvs ds) (hx:Passes CX X E)
  (ha:PA X (e :: es) t) (hdb:(x == ("__debug__" : Str))=false:=by decide) (he:starEach (e :: es) X.env=(false,eval e X.env) :: starEach es X.env:=by rfl) (hpl:(backTo pos (starEach es X.env)).any (·.1)=false:=by rfl):
  PE X (.Call (.Name x p) (e :: es) [] pos) (tCall sp dvs E t):=by
 intro pins s σ H Q I h
 refine wpAny_Call_Name_kw (ld_glob I hg hm ?_ hdb)
 refine PySem.W.callWith_K (h₀:=X.base) I.ok.mod.kin hk (thn (ha pos pins s σ H _ I h) fun us s1 ⟨vs,H1,I1,r,q⟩=>⟨I1.kIn,?_⟩) he hpl
 exact run_fn F hr hb hd hx I1 r q
theorem pe_meth0 {pl:Sem Bool} (he:PE X o ta) (c:Cls X.K C) (hm:Meth X.K C m f) (F:FnOk X.prog X.w X.K X.mg X.base CX k f fd ps sp) (hr:Room k X.A) (hb:Binds X.K fd ps ds) (hd:Vals dvs ds) (hx:Passes CX X E)
  (ht:eval (.Call (.Attribute o m apos) [] [] pos) X.env=(do
   let ov ← eval o X.env
   standAt apos.atName
   let (f,first) ← holding [ov] (getMethod ov m pl)
   callWith pos f first (backTo pos (starEach [] X.env)) (backToKw pos (keywordEach [] X.env))):=by rfl):
  PE X (.Call (.Attribute o m apos) [] [] pos) (tMeth C m sp dvs E ta tNil):=by
 intro pins s σ H Q I h
 refine PySem.W.methodCall_KW (pl:=pl) (thn (he pins s σ H _ I h) fun u s1 ⟨x,H1,I1,rx,a,dx,fs,ex,ea,l,q⟩=>?_) ht
 subst ex
 obtain rfl:u=Value.ref a:=rx
 refine getmeth_ok I1 ea c hm l ?_
 exact PySem.W.callWith_K0 (first:=[.ref a]) I1.kIn hm.kp (run_fn (us:=[.ref a]) (vs:=[.ref a]) F hr hb hd hx I1 (.cons rfl .nil) q)
structure Mk (K:W.Frag) (C f:Addr):Prop where
 makes:PySem.W.makesIn K C=true
 init:PySem.W.findIn K (.ref C) "__init__" = some (some (.ref f))
 fn:PySem.W.isFn K (.ref f)=true
 kp:PySem.W.keepIn K (.ref C)=true
theorem run_make {pins:List (Addr×Obj)} {σ:St} {H:Hp} {s:Shared} {Q:VK} {us:List Value} {vs:List V} (M:Mk X.K C f) (F:FnOk X.prog X.w X.K X.mg X.base CX k f fd ps sp) (hr:Room (k+1) X.A) (hb:Binds X.K fd ps ds) (hd:Vals dvs ds)
  (hx:Passes CX X E) (I:Inv X pins σ H s) (r:Vals vs us)
  (h:∀x dx,H x=none->H dx=none->dx≠x->sp (.ref x :: (vs++dvs)) (upd (upd H dx (.own x)) x (.ins C dx [])) (fun v H2=>v=.non∧Q (.ref x) H2) E):
  wpAny (model X.prog X.w) X.A (call (.ref C) us) (EP X pins σ Q) X.xe s:=by
 have hq:=h (s.heap.objs.size+1) s.heap.objs.size (I.hok.fresh (Nat.le_succ _)) (I.hok.fresh (Nat.le_refl _)) (Nat.ne_of_lt (Nat.lt_succ_self _))
 have I2:=Inv.made (C:=C) I
 have r2:Vals (V.ref (s.heap.objs.size+1) :: (vs++dvs)) (Value.ref (s.heap.objs.size+1) :: (us++ds)):=.cons rfl (r.append hd)
 have hl:(Value.ref (s.heap.objs.size+1) :: us++ds).length=ps.length:=by
  have e:=r2.length
  rw [F.len _ _ _ _ hq] at e
  exact e.symm
 refine wpAny_call (make_map (f:=f) I.kIn M.makes M.init (beq_iff_eq.mp M.fn) (codeAny_mono (F.run _ X.stack _ _ ⟨Value.ref (s.heap.objs.size+1) :: us,[]⟩ (Value.ref (s.heap.objs.size+1) :: (us++ds)) _ _ E (hr.make C us [])
  (I2.env0.make C us []) (hb _ (Value.ref (s.heap.objs.size+1) :: us) I2.kIn hl) r2 hq) fun r s' hq'=>?_))
 cases r with
 | error e=>exact hx pins σ _ _ e s' I2 hq'
 | ok fl=>
  cases fl with
  | ret u=>
   obtain⟨v,H',I3,rv,ev,q3⟩:=I2.after hq'
   subst ev
   exact⟨rv,⟨V.ref (s.heap.objs.size+1),H',I3,rfl,q3⟩⟩
  | next=>exact False.elim hq'
  | brk=>exact False.elim hq'
  | cont=>exact False.elim hq'
theorem pe_make (M:Mk X.K C f) (F:FnOk X.prog X.w X.K X.mg X.base CX k f fd ps sp) (hr:Room (k+1) X.A) (hg:Gl X x) (hm:X.mg x=some (.ref C)) (hb:Binds X.K fd ps ds) (hd:Vals dvs ds) (hx:Passes CX X E)
  (ha:PA X (e :: es) t) (hdb:(x == ("__debug__" : Str))=false:=by decide) (he:starEach (e :: es) X.env=(false,eval e X.env) :: starEach es X.env:=by rfl) (hpl:(backTo pos (starEach es X.env)).any (·.1)=false:=by rfl):
  PE X (.Call (.Name x p) (e :: es) [] pos) (tMake C sp dvs E t):=by
 intro pins s σ H Q I h
 refine wpAny_Call_Name_kw (ld_glob I hg hm ?_ hdb)
 refine PySem.W.callWith_K (h₀:=X.base) I.ok.mod.kin M.kp (thn (ha pos pins s σ H _ I h) fun us s1 ⟨vs,H1,I1,r,q⟩=>⟨I1.kIn,?_⟩) he hpl
 exact run_make M F hr hb hd hx I1 r q
end
section
variable {X:Cx} {CX:CXT} {k:Nat} {f C:Addr} {fd:FuncData} {ps ks:List Str} {sp:Sp} {E:XK} {x m:Str} {p pos apos kpos:Pos} {e o:Expr} {es:List Expr} {kws:List Keyword} {te ta:TE} {t tk:TA} {nm:Option Str}
variable {g:List Value->List Value->List Value} {gV:List V->List V->List V}
end
structure FnScope (N P:List Str) (sc:Scope):Prop where
 kind:sc.kind=.function
 co:sc.isCoroutine=false
 gen:sc.isGenerator=false
 nd:N.Nodup
 pre:N.take P.length=P
 par:∀x∈P,sc.names.lookup x=some .local∨sc.names.lookup x=some .cell
 nofree:∀y∈sc.names,y.2≠.free
theorem bindL_out {kindOf:Str->Option NameKind} {x:Str}:∀{binds:List (Str×Value)} {m:Str->Option Value},(∀v,(x,v)∉binds)->bindL kindOf binds m x=m x
 | [],_,_=>rfl
 |(n,v) :: r,m,h=>by
  unfold bindL
  rw [bindL_out fun w hw=>h w (List.mem_cons_of_mem _ hw)]
  split
  ·have:x≠n:=by rintro rfl;exact h v List.mem_cons_self
   simp [this]
  ·rfl
theorem bindC_out {kindOf:Str->Option NameKind} {x:Str}:∀{binds:List (Str×Value)} {m:Str->Option Value},(∀v,(x,v)∉binds)->bindC kindOf binds m x=m x
 | [],_,_=>rfl
 |(n,v) :: r,m,h=>by
  unfold bindC
  rw [bindC_out fun w hw=>h w (List.mem_cons_of_mem _ hw)]
  split
  ·rfl
  ·have:x≠n:=by rintro rfl;exact h v List.mem_cons_self
   simp [this]
theorem bindL_get {kindOf:Str->Option NameKind} {x:Str} {v:Value}:∀{P:List Str} {vs:List Value} {i:Nat} {m:Str->Option Value},P.Nodup->P[i]?=some x->vs[i]?=some v->kindOf x=some .local->
  bindL kindOf (P.zip vs) m x=some v
 | [],_,_,_,_,h,_,_=>by simp at h
 | _ :: _,[],_,_,_,_,h,_=>by simp at h
 | p :: P,w :: vs,0,m,nd,h1,h2,hk=>by
  simp at h1 h2;subst h1;subst h2
  show bindL kindOf ((p,w) :: P.zip vs) m p=_
  unfold bindL
  rw [bindL_out fun v hv=>(List.nodup_cons.mp nd).1 (List.of_mem_zip hv).1,if_pos hk]
  simp
 | p :: P,w :: vs,i+1,m,nd,h1,h2,hk=>by
  show bindL kindOf ((p,w) :: P.zip vs) m x=_
  unfold bindL
  exact bindL_get (i:=i) (List.nodup_cons.mp nd).2 (by simpa using h1) (by simpa using h2) hk
theorem bindC_get {kindOf:Str->Option NameKind} {x:Str} {v:Value}:∀{P:List Str} {vs:List Value} {i:Nat} {m:Str->Option Value},P.Nodup->P[i]?=some x->vs[i]?=some v->kindOf x≠some .local->
  bindC kindOf (P.zip vs) m x=some v
 | [],_,_,_,_,h,_,_=>by simp at h
 | _ :: _,[],_,_,_,_,h,_=>by simp at h
 | p :: P,w :: vs,0,m,nd,h1,h2,hk=>by
  simp at h1 h2;subst h1;subst h2
  show bindC kindOf ((p,w) :: P.zip vs) m p=_
  unfold bindC
  rw [bindC_out fun v hv=>(List.nodup_cons.mp nd).1 (List.of_mem_zip hv).1,if_neg hk]
  simp
 | p :: P,w :: vs,i+1,m,nd,h1,h2,hk=>by
  show bindC kindOf ((p,w) :: P.zip vs) m x=_
  unfold bindC
  exact bindC_get (i:=i) (List.nodup_cons.mp nd).2 (by simpa using h1) (by simpa using h2) hk
def start (N:List Str) (vs:List V):St:=vs.map some++List.replicate (N.length - vs.length) none
noncomputable def cxOf (CX:CXT) (P:Program) (w:World) (K:W.Frag) (mg:Str->Option Value) (base:Heap) (N:List Str) (qual:Str) (scope:Scope) (f:Addr) (cd:Value) (A:Around) (outer:List Env) (s:Shared) (H:Hp) (E:XK):Cx where
 prog:=P
 w:=w
 K:=K
 mg:=mg
 base:=base
 A:=A.deeper (envOfC qual scope s.heap.objs.size f cd)
 N:=N
 s₀:=s
 H₀:=H
 env:=envOfC qual scope s.heap.objs.size f cd
 outer:=outer
 stack:=envOfC qual scope s.heap.objs.size f cd :: outer
 ex:=[]
 calm:=true
 fn:=fun _=>true
 pn:=[]
 xe:=fun e s'=>wpAny (model P w) (A.deeper (envOfC qual scope s.heap.objs.size f cd)) (leaving (envOfC qual scope s.heap.objs.size f cd) e) (fun _ s''=>CX outer H s E e s'') (fun e' s''=>CX outer H s E e' s'') s'
theorem cell_has {sc:Scope} {n:Nat} {x:Str} (h:sc.names.lookup x=some .cell):∃c,(cellsFrom n sc.names []).lookup x=some c:=by
 have q:=PySem.W.cellsFrom_some sc.names n [] (.inl h)
 exact Option.isSome_iff_exists.mp q
theorem inv_start {CX:CXT} {P:Program} {w:World} {K:W.Frag} {mg:Str->Option Value} {base:Heap} {N ps:List Str} {qual:Str} {scope:Scope} {f:Addr} {cd:Value} {A:Around} {outer:List Env} {s s1:Shared} {H:Hp} {E:XK} {us:List Value} {vs:List V}
  (S:FnScope N ps scope) (hd:A.handled=none) (e0:Env0 P w K mg base A outer s H) (hl:vs.length=ps.length) (r:Vals vs us)
  (x:InCallC s s.heap.objs.size (bindL (envOfC qual scope s.heap.objs.size f cd).kindOf (ps.zip us) fun _=>none) (cellsFrom (s.heap.objs.size+1) scope.names []) (bindC (envOfC qual scope s.heap.objs.size f cd).kindOf (ps.zip us) fun _=>none) s1):
  Inv (cxOf CX P w K mg base N qual scope f cd A outer s H E) [] (start N vs) H s1:=by
 have hpl:ps.length<=N.length:=by have:=congrArg List.length S.pre;rw [List.length_take] at this;omega
 obtain⟨h1,tk,rfl,hk⟩:=x.done
 have noA:∀b:Addr,b∉(cxOf CX P w K mg base N qual scope f cd A outer s H E).ex:=fun b z=>absurd (show b∈([]:List Addr) from z) (by simp)
 refine⟨⟨e0.mod,S.kind,rfl,rfl,Nat.le_refl _,fun y z c h1 h2=>?_,fun y hy=>?_,fun y c _ h=>?_,fun _=>hd,Around.frames_deeper e0.frames,.inr ⟨rfl,rfl⟩,fun b z=>absurd z (noA b),e0.bs,e0.bsz,fun b _ _=>noA b,fun b z=>absurd z (noA b),e0.funs,e0.frf⟩,
  rfl,e0.bare,Un.kept hk,⟨_,x.toInCall.ns,fun i y v h1 h2 h3=>?_⟩,fun y c h=>⟨_,x.cell y c h⟩,e0.hok.fresh (Nat.le_refl _),fun y c h=>?_,fun p hp=>absurd (show p∈([]:List (Addr×Obj)) from hp) (by simp),e0.hok.kept hk,?_⟩
 ·exact name_of_addr x.apart (PySem.mem_of_lookup h1) (PySem.mem_of_lookup h2)
 ·have hy:scope.names.lookup y=some .cell∨scope.names.lookup y=some .free:=hy
  rcases hy with hy | hy
  ·exact cell_has hy
  ·exact absurd rfl (S.nofree _ (PySem.mem_of_lookup hy))
 ·exact Nat.le_of_lt (x.above y c (PySem.mem_of_lookup h))
 ·have hi:i < vs.length:=by
   unfold start at h2
   by_cases hi:i < vs.length
   ·exact hi
   ·rw [List.getElem?_append_right (by simpa using hi)] at h2
    rw [List.getElem?_replicate] at h2
    split at h2 <;> cases h2
  have ha:vs[i]?=some v:=by
   unfold start at h2
   rw [List.getElem?_append_left (by simpa using hi),List.getElem?_map] at h2
   cases e:vs[i]? with
   | none=>rw [e] at h2;cases h2
   | some a=>rw [e] at h2;cases h2;rfl
  obtain⟨u,hu,rv⟩:=r.get ha
  have hp:ps[i]?=some y:=by
   rw [← S.pre,List.getElem?_take_of_lt (by omega)];exact h1
  have ndP:ps.Nodup:=by rw [← S.pre];exact S.nd.sublist (List.take_sublist _ _)
  refine⟨u,rv,?_⟩
  rcases S.par y (List.mem_of_getElem? hp) with k | k
  ·exact .inl ⟨k,bindL_get ndP hp hu k⟩
  ·obtain⟨c,e⟩:=cell_has (n:=s.heap.objs.size+1) k
   refine .inr ⟨.inl k,c,e,?_⟩
   have q:=x.cell y c e
   rw [bindC_get ndP hp hu (by show scope.names.lookup y≠_;rw [k];decide)] at q
   exact q
 ·exact e0.hok.fresh (Nat.le_of_lt (x.above y c (PySem.mem_of_lookup h)))
 ·unfold start
  show _=N.length
  rw [List.length_append,List.length_map,List.length_replicate]
  omega
theorem fn_of {CX:CXT} {P:Program} {w:World} {K:W.Frag} {mg:Str->Option Value} {base:Heap} {k:Nat} {f:Addr} {name qual:Str} {params:Arguments} {body:List Stmt} {scope:Scope} {dV kV doc pm cdv ct oc:Value} {an od:Option Addr}
  {osl:Array (Option Value)} {N ps:List Str} {sp:Sp} (lk:K.lookup f=some ⟨oc,od,.func (PySem.W.fnOf name qual params body scope dV kV doc pm an cdv ct),osl⟩) (hcd:PySem.W.codeIn K cdv qual=true) (S:FnScope N ps scope)
  (len:∀vs H Q E,sp vs H Q E->vs.length=ps.length)
  (hbody:∀(A:Around) (outer:List Env) (s:Shared) (H:Hp) (vs:List V) (Q:VK) (E:XK),Room k (A.deeper (envOfC qual scope s.heap.objs.size f cdv))->sp vs H Q E->
   ∃t,PSs (cxOf CX P w K mg base N qual scope f cdv A outer s H E) body t∧t { nx:=fun _ H'=>Q .non H',rt:=Q } (start N vs) H):
  FnOk P w K mg base CX (k+1) f (PySem.W.fnOf name qual params body scope dV kV doc pm an cdv ct) ps sp:=by
 refine⟨len,fun A outer s H args us vs Q E hr e0 hb r hsp=>?_⟩
 have hl:=len _ _ _ _ hsp
 have KX:K.In s.heap:=e0.mod.kin.keeps fun b o e=>(e0.bs b o e).1
 have lim:s.heap.NoLimit:=e0.mod.nolimit.keeps fun b o e=>(e0.bs b o e).1
 have hkind:∀y∈ps.zip us,scope.names.lookup y.1=some .local∨(scope.names.lookup y.1=some .cell∧((cellsFrom (s.heap.objs.size+1) scope.names []).lookup y.1).isSome=true):=fun ⟨n,v⟩ hy=>by
  rcases S.par n (List.of_mem_zip hy).1 with q | q
  ·exact .inl q
  ·exact .inr ⟨q,PySem.W.cellsFrom_some _ _ _ (.inl q)⟩
 refine codeAny_call_function hr.depth (KX _ _ lk) rfl S.co S.gen rfl (PySem.W.codeRec_of KX hcd) (hb _ _ _ _ ?_)
 refine wpAny_newFunctionEnv_cells S.kind hkind fun env he s1 x=>?_
 subst he
 refine⟨lim.keeps x.toInCall.keep,codeAny_func ?_⟩
 obtain⟨t,ht,hq⟩:=hbody A outer s H vs Q E (hr.deeper _) hsp
 have I:Inv (cxOf CX P w K mg base N qual scope f cdv A outer s H E) [] (start N vs) H s1:=inv_start S hr.hd e0 hl r x
 refine wpAny_mono (ht [] s1 (start N vs) H _ I hq) (fun fl s' hs=>?_) fun e s' hs=>hs
 have fin:∀{σ':St} {H':Hp} {v:V} {u:Value},Inv (cxOf CX P w K mg base N qual scope f cdv A outer s H E) [] σ' H' s'->RelV v u->Q v H'->CE outer P w H s Q u s':=
  fun {σ' H' v u} J rv q=>⟨v,H',J.os,J.bare,J.base,J.hok,rv,q⟩
 cases fl with
 | ret u=>
  obtain⟨v,σ',H',J,rv,q⟩:=hs
  exact fin J rv q
 | next=>
  obtain⟨σ',H',J,q⟩:=hs
  exact fin (v:=V.non) (u:=Value.none) J rfl q
 | brk=>
  obtain⟨_,_,_,q⟩:=hs
  exact False.elim q
 | cont=>
  obtain⟨_,_,_,q⟩:=hs
  exact False.elim q
section
variable {X:Cx} {x:Str} {p pos:Pos} {e:Expr} {es:List Expr} {t:TA} {id T:String} {r:List V->Hp->VK->Prop}
def tCB (r:List V->Hp->VK->Prop) (t:TA):TE:=fun σ H Q=>t σ H fun vs H1=>r vs H1 Q
theorem pe_callB (hc:CallR X (.builtin id) r) (hg:Gl X x) (hm:X.mg x=none) (hv:bootBuiltins x=some (.builtin id)) (ha:PA X (e :: es) t) (hn:x ≠ "__name__" := by decide) (hdb:(x == ("__debug__" : Str))=false:=by decide)
  (he:starEach (e :: es) X.env=(false,eval e X.env) :: starEach es X.env:=by rfl) (hpl:(backTo pos (starEach es X.env)).any (·.1)=false:=by rfl):PE X (.Call (.Name x p) (e :: es) [] pos) (tCB r t):=by
 intro pins s σ H Q I h
 refine wpAny_Call_Name_kw (ld_blt I hg hm hv ?_ hn hdb)
 exact PyProof.Rows.callWith_builtin1 (thn (ha pos pins s σ H _ I h) fun us s1 ⟨vs,H1,I1,r1,q1⟩=>hc pins s1 σ H1 vs us Q I1 r1 q1) he hpl
theorem pe_callTy (hc:CallR X (.type T) r) (hg:Gl X x) (hm:X.mg x=none) (hv:bootBuiltins x=some (.type T)) (ha:PA X (e :: es) t) (hn:x ≠ "__name__" := by decide) (hdb:(x == ("__debug__" : Str))=false:=by decide)
  (he:starEach (e :: es) X.env=(false,eval e X.env) :: starEach es X.env:=by rfl) (hpl:(backTo pos (starEach es X.env)).any (·.1)=false:=by rfl):PE X (.Call (.Name x p) (e :: es) [] pos) (tCB r t):=by
 intro pins s σ H Q I h
 refine wpAny_Call_Name_kw (ld_blt I hg hm hv ?_ hn hdb)
 exact PyProof.Rows.callWith_type1 (thn (ha pos pins s σ H _ I h) fun us s1 ⟨vs,H1,I1,r1,q1⟩=>hc pins s1 σ H1 vs us Q I1 r1 q1) he hpl
end
end L2
namespace HT
open PySem PyProof.Rows
section
open PySem.SeqAt
open PySem.AutoSeq1 (wpAny_loadPart')
open PySem.MeetsSeq PySem.MeetsSeq2 PySem.MeetsSeq3
end
section
variable {prog:Program} {w:World} {A:Around} {E:Value->Shared->Prop} {s:Shared}
def sIx (n d:Nat):Option Int->Nat
 | none=>d
 | some v=>if v < 0 then (v+(n:Int)).toNat else min v.toNat n
end
end HT
namespace L2
open PySem PySem.Spec PyProof.Rows
abbrev TO:=St->Hp->(Option Int->Hp->Prop)->Prop
def PO (X:Cx) (e:Option Expr) (t:TO):Prop:=
 ∀(pins:List (Addr×Obj)) (s:Shared) (σ:St) (H:Hp) (Q:Option Int->Hp->Prop),Inv X pins σ H s->t σ H Q->
  wpAny (model X.prog X.w) X.A (evalPart e X.env) (fun u s'=>∃o H',Inv X pins σ H' s'∧IsPart u o∧Q o H') X.xe s
def tNoPart:TO:=fun _ H Q=>Q none H
def tPart (t:TE):TO:=fun σ H Q=>t σ H fun x H1=>∃i,x=.int i∧Q (some i) H1
section
variable {X:Cx} {e:Expr} {te:TE} {lo hi:Option Expr} {tl th:TO} {pos p2:Pos}
theorem po_none:PO X none tNoPart:=by
 intro pins s σ H Q I h
 rw [evalPart_none]
 exact wpAny_pure ⟨none,H,I,.none,h⟩
theorem po_some (h:PE X e te):PO X (some e) (tPart te):=by
 intro pins s σ H Q I hw
 rw [evalPart_some]
 refine thn (h pins s σ H _ I hw) fun u s1 ⟨x,H1,I1,r1,q1⟩=>?_
 obtain⟨i,rfl,q⟩:=q1
 obtain⟨t,rfl⟩:=r1
 exact⟨some i,H1,I1,.int i t,q⟩
def SlR (X:Cx) (r:V->Option Int->Option Int->Hp->VK->Prop):Prop:=
 ∀(pins:List (Addr×Obj)) (s:Shared) (σ:St) (H:Hp) (x:V) (v vl vu:Value) (lo hi:Option Int) (sl:Addr) (Q:VK),Inv X pins σ H s->RelV x v->s.heap.IsSliceOf sl vl vu .none->IsPart vl lo->IsPart vu hi->r x lo hi H Q->
  ∃T id,typeLookup (.type T) "__getitem__" = pure (some (.builtin id))∧s.TypeIs v T∧wpAny (model X.prog X.w) X.A (getItem v (.ref sl)) (EP X pins σ Q) X.xe s
def tSl (r:V->Option Int->Option Int->Hp->VK->Prop) (te:TE) (tl th:TO):TE:=fun σ H Q=>te σ H fun x H1=>tl σ H1 fun l H2=>th σ H2 fun u H3=>r x l u H3 Q
theorem pe_slice {r:V->Option Int->Option Int->Hp->VK->Prop} (hr:SlR X r) (he:PE X e te) (hl:PO X lo tl) (hu:PO X hi th):PE X (.Subscript e (.Slice lo hi none p2) pos) (tSl r te tl th):=by
 intro pins s σ H Q I h
 refine Subscript_ (thn (he pins s σ H _ I h) fun v s1 ⟨x,H1,I1,r1,q1⟩=>?_)
 refine wpAny_Slice (thn (hl pins s1 σ H1 _ I1 q1) fun vl s2 ⟨l,H2,I2,pl,q2⟩=>thn (hu pins s2 σ H2 _ I2 q2) fun vu s3 ⟨u,H3,I3,pu,q3⟩=>?_)
 rw [evalPart_none]
 refine wpAny_pure ?_
 have I4:Inv X pins σ H3 { s3 with heap:=s3.heap.push { cls:=.type "slice",data:=.fields #[vl,vu,.none] } }:=I3.kept (t':=s3.toks) fun b ob q=>Heap.get?_push_of_some _ q
 obtain⟨T,id,hT,ht,hg⟩:=hr pins { s3 with heap:=s3.heap.push { cls:=.type "slice",data:=.fields #[vl,vu,.none] } } σ H3 x v vl vu l u s3.heap.objs.size Q I4 r1 (Heap.IsSliceOf.new ..) pl pu q3
 show wpAny (model X.prog X.w) X.A (subscriptTail e (.Slice lo hi none p2) v (.ref s3.heap.objs.size)) (EP X pins σ Q) X.xe { s3 with heap:=s3.heap.push { cls:=.type "slice",data:=.fields #[vl,vu,.none] } }
 exact tail_any (ops:=[.ref s3.heap.objs.size,v]) ht hT hg (by with_unfolding_all rfl)
def cutV (xs:List V) (lo hi:Option Int):List V:=(xs.drop (HT.sIx xs.length 0 lo)).take (HT.sIx xs.length xs.length hi - HT.sIx xs.length 0 lo)
theorem cutV_length (xs:List V) (lo hi:Option Int):(cutV xs lo hi).length<=xs.length:=by
 unfold cutV
 rw [List.length_take,List.length_drop]
 omega
end
def ixN (n:Nat) (i:Int):Option Nat:=if 0<=i then (if i < n then some i.toNat else none) else if -(n:Int)<=i then some (i+n).toNat else none
def atI {α:Type} (xs:List α) (i:Int):Option α:=(ixN xs.length i).bind fun j=>xs[j]?
theorem ixN_seq {n:Nat} {i:Int} {j:Nat} (h:ixN n i=some j):seqIndex? i n=some j∧j < n∧-(n:Int)<=i∧i < n:=by
 unfold ixN at h
 by_cases h0:0<=i
 ·rw [if_pos h0] at h
  by_cases h1:i < n
  ·rw [if_pos h1] at h
   have e:i.toNat=j:=Option.some.inj h
   exact⟨by rw [seqIndex_of h0 h1,e],by omega,by omega,h1⟩
  ·rw [if_neg h1] at h;cases h
 ·rw [if_neg h0] at h
  by_cases h1:-(n:Int)<=i
  ·rw [if_pos h1] at h
   have e:(i+n).toNat=j:=Option.some.inj h
   exact⟨by rw [seqIndex_neg (by omega) h1,e],by omega,h1,by omega⟩
  ·rw [if_neg h1] at h;cases h
theorem atI_get {α:Type} {xs:List α} {i:Int} {v:α} (h:atI xs i=some v):∃j,seqIndex? i xs.length=some j∧xs[j]?=some v∧j < xs.length∧-(xs.length:Int)<=i∧i < xs.length:=by
 unfold atI at h
 cases e:ixN xs.length i with
 | none=>rw [e] at h;cases h
 | some j=>
  rw [e] at h
  obtain⟨h1,h2,h3,h4⟩:=ixN_seq e
  exact⟨j,h1,h,h2,h3,h4⟩
theorem atI_nat {α:Type} {xs:List α} {j:Nat} {v:α} (h:xs[j]?=some v):atI xs (j:Int)=some v:=by
 have hj:j < xs.length:=(List.getElem?_eq_some_iff.mp h).1
 have e:ixN xs.length (j:Int)=some j:=by
  unfold ixN
  rw [if_pos (by omega),if_pos (by omega)];simp
 unfold atI;rw [e];exact h
def PlainIx (b:Expr):Prop:=∀o i,subscripted b false o i=operate [o,i] (getItem o i)
def IxR (X:Cx) (r:R2):Prop:=
 ∀(value slice:Expr) (pins:List (Addr×Obj)) (s:Shared) (σ:St) (H:Hp) (x y:V) (v u:Value) (Q:VK),Inv X pins σ H s->RelV x v->RelV y u->r x y H Q->
  subscripted slice false v u=operate [v,u] (getItem v u)->wpAny (model X.prog X.w) X.A (subscriptTail value slice v u) (EP X pins σ Q) X.xe s
def MtR (X:Cx) (id:String) (r:V->List V->Hp->VK->Prop):Prop:=
 ∀(pins:List (Addr×Obj)) (s:Shared) (σ:St) (H:Hp) (x:V) (xs:List V) (v:Value) (us:List Value) (Q:VK),Inv X pins σ H s->RelV x v->Vals xs us->r x xs H Q->
  wpAny (model X.prog X.w) X.A (call (.builtin id) (v :: us)) (EP X pins σ Q) X.xe s
section
variable {X:Cx} {a b:Expr} {ta tb:TE} {pos:Pos}
theorem pe_ix {r:R2} (hr:IxR X r) (ha:PE X a ta) (hb:PE X b tb) (hs:PlainIx b):PE X (.Subscript a b pos) (tOp r ta tb):=by
 intro pins s σ H Q I h
 exact Subscript_ (binT ha hb I h fun v u s2 x y H2 I2 rx ry q=>hr a b pins s2 σ H2 x y v u Q I2 rx ry q (hs _ _))
def rIxL (K:W.Frag):R2:=fun x y H Q=>∃p xs i v,x=.ref p∧y=.int i∧SqL K H p xs∧atI xs i=some v∧Q v H
def rIxT (K:W.Frag):R2:=fun x y H Q=>∃p xs i v,x=.ref p∧y=.int i∧SqT K H p xs∧atI xs i=some v∧Q v H
def rIxS:R2:=fun x y H Q=>∃z i c,x=.str z∧y=.int i∧z.length<=sizeLine∧atI z.cps.toList i=some c∧Q (.str ⟨#[c]⟩) H
theorem ix_list:IxR X (rIxL X.K):=by
 intro value slice pins s σ H x y v u Q I rx ry h hs
 obtain⟨p,xs,i,z,rfl,rfl,hq,he,q⟩:=h
 cases rx
 obtain⟨t,rfl⟩:=ry
 obtain⟨its,r,pl,hz⟩:=I.list hq
 obtain⟨j,h1,h2,h3,h4,h5⟩:=atI_get he
 obtain⟨w,ew,rw'⟩:=r.get h2
 have hl:=r.length
 have hn:=line63
 have fin:EP X pins σ Q w s:=⟨z,H,I,rw',q⟩
 by_cases h0:0<=i
 ·have hj:i.toNat=j:=by
   rw [seqIndex_of h0 h5] at h1
   exact Option.some.inj h1
  exact item_listR pl.isList h0 (by omega) (by rw [hj];simpa using ew) fin hs
 ·have hj:(i+(its.toArray.size:Int)).toNat=j:=by
   rw [seqIndex_neg (by omega) h4] at h1
   rw [List.size_toArray,← hl]
   exact Option.some.inj h1
  exact subscriptTail_builtinR (x:=w) pl.isList.typeIs slot_list_getitem.lookup
   (wpAny_getItem_list_neg (Q:=fun r s'=>r=w∧EP X pins σ Q r s') pl.isList (by omega) (by rw [List.size_toArray] <;> omega) (by omega) (by rw [hj];simpa using ew) ⟨rfl,fin⟩) hs
theorem ix_tup:IxR X (rIxT X.K):=by
 intro value slice pins s σ H x y v u Q I rx ry h hs
 obtain⟨p,xs,i,z,rfl,rfl,hq,he,q⟩:=h
 cases rx
 obtain⟨t,rfl⟩:=ry
 obtain⟨its,r,pl,hz⟩:=I.tuple hq
 obtain⟨j,h1,h2,h3,h4,h5⟩:=atI_get he
 obtain⟨w,ew,rw'⟩:=r.get h2
 have hl:=r.length
 have hn:=line63
 have fin:EP X pins σ Q w s:=⟨z,H,I,rw',q⟩
 exact subscriptTail_builtinR (x:=w) pl.typeIs slot_tuple_getitem.lookup
  (getItem_tuple (j:=j) (Q:=fun r s'=>r=w∧EP X pins σ Q r s') pl (by omega) (by omega) (by rw [List.size_toArray,← hl];exact h1) (by simpa using ew) ⟨rfl,fin⟩) hs
theorem ix_str:IxR X rIxS:=by
 intro value slice pins s σ H x y v u Q I rx ry h hs
 obtain⟨z,i,c,rfl,rfl,hz,he,q⟩:=h
 obtain⟨t,rfl⟩:=rx
 obtain⟨t',rfl⟩:=ry
 obtain⟨j,h1,h2,h3,h4,h5⟩:=atI_get he
 have hl:z.cps.toList.length=z.length:=by simp [Str.length]
 rw [hl] at h1 h4 h5
 have hn:=line63
 exact tail_any (typeIs_str s z t) slot_str_getitem.lookup (getItem_str (c:=c) (by
  have e1:decide (i < -(2 ^ 63:Int))=false:=decide_eq_false (by omega)
  have e2:decide (i ≥ 2 ^ 63)=false:=decide_eq_false (by omega)
  rw [e1,e2,Bool.or_false]) (by rw [h1];simpa using h2) ⟨.str ⟨#[c]⟩,H,I.tok _,⟨_,rfl⟩,q⟩) hs
theorem mapSeq_set (its:List Value) (n j:Nat) (u:Value):Obj.mapSeq (·.setIfInBounds j u) { cls:=.type "list",data:=.seq its.toArray n }={ cls:=.type "list",data:=.seq (its.set j u).toArray n }:=by
 simp [Obj.mapSeq]
theorem Inv.lst {pins:List (Addr×Obj)} {σ:St} {H:Hp} {s:Shared} {p:Addr} {xs:List V} (I:Inv X pins σ H s) (h:H p=some (.lst xs)):
  ∃(its:List Value) (n:Nat),Vals xs its∧s.heap.get? p=some { cls:=.type "list",data:=.seq its.toArray n }∧xs.length<=sizeLine:=by
 obtain⟨z,its,n,r,e⟩:=I.hok p _ h
 exact⟨its,n,r,e,z⟩
theorem Inv.lstUpd {pins:List (Addr×Obj)} {σ:St} {H:Hp} {s:Shared} {p:Addr} {xs ys:List V} {its its':List Value} {n n':Nat} {f:Obj->Obj} (I:Inv X pins σ H s) (h:H p=some (.lst xs))
  (ho:s.heap.get? p=some { cls:=.type "list",data:=.seq its.toArray n }) (hf:f { cls:=.type "list",data:=.seq its.toArray n }={ cls:=.type "list",data:=.seq its'.toArray n' }) (r:Vals ys its') (hz:ys.length<=sizeLine) (t:Nat):
  Inv X pins σ (upd H p (.lst ys)) { s with heap:=s.heap.update p f,toks:=t }:=by
 have e:(s.heap.update p f).get? p=some { cls:=.type "list",data:=.seq its'.toArray n' }:=by
  rw [Heap.get?_update_self f ho (by rw [hf] <;> rfl),hf]
 refine I.write (x:=p) (e:=p) (by rw [h];trivial) (.inl rfl) (fun b u hb q=>(Heap.get?_update_other _ _ (Ne.symm hb)).trans q) ⟨_,e⟩ ?_
 exact⟨hz,its',n',r,e⟩
def rSetL:V->V->V->Hp->(Hp->Prop)->Prop:=fun o i v H Q=>∃p xs k j,o=.ref p∧i=.int k∧H p=some (.lst xs)∧ixN xs.length k=some j∧Q (upd H p (.lst (xs.set j v)))
theorem set_list:PSet X rSetL:=by
 intro pins s σ H o i v ov iv u Q I ro ri rv h
 obtain⟨p,xs,k,j,rfl,rfl,hp,hj,q⟩:=h
 cases ro
 obtain⟨t,rfl⟩:=ri
 obtain⟨its,n,r,ho,hz⟩:=I.lst hp
 obtain⟨h1,h2,h3,h4⟩:=ixN_seq hj
 have hl:=r.length
 have hn:=line63
 have I':Inv X pins σ (upd H p (.lst (xs.set j v))) { s with heap:=s.heap.update p (Obj.mapSeq (·.setIfInBounds j u)) }:=
  I.lstUpd hp ho (mapSeq_set its n j u) (r.set rv j) (by rw [List.length_set];exact hz) s.toks
 by_cases h0:0<=k
 ·have hk:k.toNat=j:=by
   rw [seqIndex_of h0 h4] at h1
   exact Option.some.inj h1
  exact PySem.W.ki_setAt ho h0 (by omega) (by rw [List.size_toArray,← hl];exact h4) (by rw [hk];exact⟨_,I',q⟩)
 ·have hk:(k+(its.toArray.size:Int)).toNat=j:=by
   rw [seqIndex_neg (by omega) h3] at h1
   rw [List.size_toArray,← hl]
   exact Option.some.inj h1
  exact PySem.W.ki_setBack ho (by omega) (by rw [List.size_toArray,← hl];exact h3) (by omega) (by rw [hk];exact⟨_,I',q⟩)
theorem slice_bounds (lo hi:Option Int) (n:Nat):(sliceBounds lo hi none n).1=((HT.sIx n 0 lo:Nat):Int)∧(sliceBounds lo hi none n).2.1=((HT.sIx n n hi:Nat):Int)∧(sliceBounds lo hi none n).2.2=1:=by
 refine⟨?_,?_,rfl⟩
 ·cases lo with
  | none=>simp [sliceBounds,HT.sIx]
  | some i=>
   simp only [sliceBounds,HT.sIx,Option.getD_none,show (1:Int) > 0 by decide,if_true]
   by_cases h:i < 0
   ·simp only [h,if_true] <;> omega
   ·simp only [h,if_false] <;> omega
 ·cases hi with
  | none=>simp [sliceBounds,HT.sIx]
  | some i=>
   simp only [sliceBounds,HT.sIx,Option.getD_none,show (1:Int) > 0 by decide,if_true]
   by_cases h:i < 0
   ·simp only [h,if_true] <;> omega
   ·simp only [h,if_false] <;> omega
theorem slicePick_cut (its:List Value) (lo hi:Option Int):slicePick its.toArray lo hi none=((its.drop (HT.sIx its.length 0 lo)).take (HT.sIx its.length its.length hi - HT.sIx its.length 0 lo)).toArray:=by
 obtain⟨h1,h2,h3⟩:=slice_bounds lo hi its.toArray.size
 unfold slicePick
 rw [h1,h2,h3]
 simp only [sliceRange_one,pick_run,List.size_toArray] <;> rfl
def rSlL (K:W.Frag):V->Option Int->Option Int->Hp->VK->Prop:=fun x lo hi H Q=>∃a xs,x=.ref a∧SqL K H a xs∧∀p,H p=none->Q (.ref p) (upd H p (.lst (cutV xs lo hi)))
theorem sl_list:SlR X (rSlL X.K):=by
 intro pins s σ H x v vl vu lo hi sl Q I rx hs pl pu h
 obtain⟨a,xs,rfl,hx,q⟩:=h
 cases rx
 obtain⟨its,r,ht,hz⟩:=I.list hx
 have hlen:=r.length
 refine⟨"list",_,slot_list_getitem.lookup,ht.isList.typeIs,?_⟩
 refine wpAny_getItem_list_slice ht.isList hs pl pu .none (by simp) ?_ (by rw [List.size_toArray] <;> omega)
 rw [slicePick_cut,← hlen]
 refine⟨.ref s.heap.objs.size,_,I.laid (t':=s.toks) (o:=.lst (cutV xs lo hi)) (fun b ob q=>Heap.get?_push_of_some _ q) (Nat.le_refl _) ?_,rfl,q _ (I.hok.fresh (Nat.le_refl _))⟩
 exact⟨Nat.le_trans (cutV_length xs lo hi) hz,_,0,(r.drop (HT.sIx xs.length 0 lo)).take (HT.sIx xs.length xs.length hi - HT.sIx xs.length 0 lo),Heap.get?_push_size _ rfl⟩
def flatV:V->Bool
 | .non=>true
 | .bl _=>true
 | .int _=>true
 | .str _=>true
 | _=>false
def eqV:V->V->Bool
 | .non,.non=>true
 | .bl a,.bl b=>a == b
 | .bl a,.int b=>(if a then 1 else 0) == b
 | .int a,.bl b=>a == (if b then 1 else 0)
 | .int a,.int b=>a == b
 | .str a,.str b=>a == b
 | _,_=>false
theorem eqAt_V {A:Around} {s:Shared} {y x:V} {u v:Value} (ry:RelV y u) (rx:RelV x v) (fy:flatV y=true) (fx:flatV x=true):SeqAt.EqAt A s u v (eqV y x):=by
 cases y with
 | non=>
  cases ry
  cases x with
  | non=>cases rx;exact SeqAt.EqAt.same _
  | bl b=>cases rx;exact SeqAt.EqAt.none_bool b
  | int b=>obtain⟨t,rfl⟩:=rx;exact SeqAt.EqAt.none_int b t
  | str b=>obtain⟨t,rfl⟩:=rx;exact SeqAt.EqAt.none_str b t
  | _=>exact absurd (show false=true from fx) Bool.false_ne_true
 | bl a=>
  cases ry
  cases x with
  | non=>cases rx;exact SeqAt.EqAt.bool_none a
  | bl b=>cases rx;exact SeqAt.EqAt.bool_bool a b
  | int b=>obtain⟨t,rfl⟩:=rx;exact SeqAt.EqAt.bool_int a b t
  | str b=>obtain⟨t,rfl⟩:=rx;exact SeqAt.EqAt.bool_str a b t
  | _=>exact absurd (show false=true from fx) Bool.false_ne_true
 | int a=>
  obtain⟨t',rfl⟩:=ry
  cases x with
  | non=>cases rx;exact SeqAt.EqAt.int_none a t'
  | bl b=>cases rx;exact SeqAt.EqAt.int_bool a t' b
  | int b=>obtain⟨t,rfl⟩:=rx;exact SeqAt.EqAt.int_int a t' b t
  | str b=>obtain⟨t,rfl⟩:=rx;exact SeqAt.EqAt.int_str a t' b t
  | _=>exact absurd (show false=true from fx) Bool.false_ne_true
 | str a=>
  obtain⟨t',rfl⟩:=ry
  cases x with
  | non=>cases rx;exact SeqAt.EqAt.str_none a t'
  | bl b=>cases rx;exact SeqAt.EqAt.str_bool a t' b
  | int b=>obtain⟨t,rfl⟩:=rx;exact SeqAt.EqAt.str_int a t' b t
  | str b=>obtain⟨t,rfl⟩:=rx;exact SeqAt.EqAt.str_str a t' b t
  | _=>exact absurd (show false=true from fx) Bool.false_ne_true
 | _=>exact absurd (show false=true from fy) Bool.false_ne_true
def eqU (x:V) (u:Value):Bool:=match u with
 | .none=>eqV .non x
 | .bool b=>eqV (.bl b) x
 | .int i _=>eqV (.int i) x
 | .str z _=>eqV (.str z) x
 | _=>false
theorem eqU_of {x y:V} {u:Value} (r:RelV y u) (f:flatV y=true):eqU x u=eqV y x:=by
 cases y with
 | non=>cases r;rfl
 | bl b=>cases r;rfl
 | int i=>obtain⟨t,rfl⟩:=r;rfl
 | str z=>obtain⟨t,rfl⟩:=r;rfl
 | _=>exact absurd (show false=true from f) Bool.false_ne_true
theorem any_eqU {x:V}:∀{xs:List V} {us:List Value},Vals xs us->xs.all flatV=true->us.any (eqU x)=xs.any fun y=>eqV y x
 | _,_,.nil,_=>rfl
 | y :: xs,u :: us,.cons r t,f=>by
  rw [List.all_cons,Bool.and_eq_true] at f
  rw [List.any_cons,List.any_cons,eqU_of r f.1,any_eqU t f.2]
theorem mem_eqAt {A:Around} {s:Shared} {x:V} {v:Value} (rx:RelV x v) (fx:flatV x=true):∀{xs:List V} {us:List Value},Vals xs us->xs.all flatV=true->∀u∈us,SeqAt.EqAt A s u v (eqU x u)
 | _,_,.nil,_=>fun u hu=>by cases hu
 | y :: xs,u :: us,.cons r t,f=>fun u' hu=>by
  rw [List.all_cons,Bool.and_eq_true] at f
  rcases List.mem_cons.mp hu with rfl | hu
  ·rw [eqU_of r f.1];exact eqAt_V r rx f.1 fx
  ·exact mem_eqAt rx fx t f.2 u' hu
def inV (x:V) (xs:List V):Bool:=xs.any fun y=>eqV y x
def rIn (K:W.Frag) (neg:Bool):R2:=fun x y H Q=>∃p xs,y=.ref p∧(SqL K H p xs∨SqT K H p xs)∧flatV x=true∧xs.all flatV=true∧Q (.bl (if neg then !inV x xs else inV x xs)) H
theorem op_in_seq:OpR X (compareOp .In) (rIn X.K false):=by
 intro pins s σ H x y v u Q I rx ry h
 obtain⟨p,xs,rfl,hq,fx,fs,q⟩:=h
 cases ry
 rcases hq with hq | hq
 ·obtain⟨its,r,pl,hz⟩:=I.list hq
  refine SeqAt.in_listAt (eqU x) pl.isList (fun w hw=>mem_eqAt rx fx r fs w (by simpa using hw)) ⟨.bl _,H,I,rfl,?_⟩
  rw [show its.toArray.any (eqU x)=its.any (eqU x) by simp,any_eqU r fs]
  exact q
 ·obtain⟨its,r,pl,hz⟩:=I.tuple hq
  refine SeqAt.in_tupleAt (eqU x) pl (fun w hw=>mem_eqAt rx fx r fs w (by simpa using hw)) ⟨.bl _,H,I,rfl,?_⟩
  rw [show its.toArray.any (eqU x)=its.any (eqU x) by simp,any_eqU r fs]
  exact q
theorem call_len_seq:CallR X (.builtin "len") (fun xs H Q=>∃p ys,xs=[.ref p]∧(SqL X.K H p ys∨SqT X.K H p ys)∧Q (.int ys.length) H):=by
 intro pins s σ H xs us Q I r h
 obtain⟨p,ys,rfl,hq,q⟩:=h
 obtain⟨u,rfl,rx⟩:=vals1 r
 cases rx
 have hn:=line63
 rcases hq with hq | hq
 ·obtain⟨its,r',pl,hz⟩:=I.list hq
  have hlen:=r'.length
  exact Calls.call_len_list pl.isList (by simp only [List.size_toArray] <;> omega) ⟨.int ys.length,H,I.tok _,⟨s.toks+1,by rw [List.size_toArray,hlen]⟩,q⟩
 ·obtain⟨its,r',pl,hz⟩:=I.tuple hq
  have hlen:=r'.length
  exact len_tuple pl (by simp only [List.size_toArray] <;> omega) ⟨.int ys.length,H,I.tok _,⟨s.toks+1,by rw [List.size_toArray,hlen]⟩,q⟩
theorem call_len_str:CallR X (.builtin "len") (fun xs H Q=>∃z,xs=[.str z]∧z.length<=sizeLine∧Q (.int z.length) H):=by
 intro pins s σ H xs us Q I r h
 obtain⟨z,rfl,hz,q⟩:=h
 obtain⟨u,rfl,t,rfl⟩:=vals1 r
 have hn:=line63
 exact len_str (by omega) ⟨.int z.length,H,I.tok _,⟨_,rfl⟩,q⟩
theorem call_list_of:CallR X (.type "list") (fun xs H Q=>∃p ys,xs=[.ref p]∧(SqL X.K H p ys∨SqT X.K H p ys)∧∀l,H l=none->Q (.ref l) (upd H l (.lst ys))):=by
 intro pins s σ H xs us Q I r h
 obtain⟨p,ys,rfl,hq,q⟩:=h
 obtain⟨u,rfl,rx⟩:=vals1 r
 cases rx
 have fin:∀(its:List Value),Vals ys its->ys.length<=sizeLine->∀(h':Heap) (c':Nat),(∀b o',s.heap.get? b=some o'->h'.get? b=some o')->
   h'.get? s.heap.objs.size=some { cls:=.type "list",dict:=none,data:=.seq its.toArray c',slots:=#[] }->EP X pins σ Q (.ref s.heap.objs.size) { s with heap:=h' }:=fun its r' hz h' c' kp e=>
  ⟨.ref s.heap.objs.size,_,I.laid (t':=s.toks) kp (Nat.le_refl _) (show ObjOk X.prog X.w _ h' _ (.lst ys) from ⟨hz,its,c',r',e⟩),rfl,q _ (I.hok.fresh (Nat.le_refl _))⟩
 rcases hq with hq | hq
 ·obtain⟨its,r',pl,hz⟩:=I.list hq
  have hlen:=r'.length
  obtain⟨o,ho,hc,n,hd⟩:=pl.isList
  exact call_list_seq p (.inl rfl) ho hc hd (fun h' c' kp e=>fin its r' hz h' c' kp e) (by simp only [List.size_toArray] <;> omega)
 ·obtain⟨its,r',pl,hz⟩:=I.tuple hq
  have hlen:=r'.length
  obtain⟨o,ho,hc,n,hd⟩:=pl
  exact call_list_seq p (.inr rfl) ho hc hd (fun h' c' kp e=>fin its r' hz h' c' kp e) (by simp only [List.size_toArray] <;> omega)
theorem call_tuple_of:CallR X (.type "tuple") (fun xs H Q=>∃p ys,xs=[.ref p]∧((SqL X.K H p ys∧∀l,H l=none->Q (.ref l) (upd H l (.tup ys)))∨(SqT X.K H p ys∧Q (.ref p) H))):=by
 intro pins s σ H xs us Q I r h
 obtain⟨p,ys,rfl,h⟩:=h
 obtain⟨u,rfl,rx⟩:=vals1 r
 cases rx
 rcases h with ⟨hq,q⟩ | ⟨hq,q⟩
 ·obtain⟨its,r',pl,hz⟩:=I.list hq
  have hlen:=r'.length
  refine call_tuple_list pl.isList (fun h' kp=>?_) (by simp only [List.size_toArray] <;> omega)
  have I1:Inv X pins σ H { s with heap:=h' }:=I.kept (t':=s.toks) kp
  have I2:Inv X pins σ (upd H h'.objs.size (.tup ys)) { s with heap:=h'.push { cls:=.type "tuple",data:=.seq its.toArray } }:=
   I1.laid (t':=s.toks) (fun b o e=>Heap.get?_push_of_some _ e) (Nat.le_refl _) (show ObjOk X.prog X.w _ _ _ (.tup ys) from ⟨hz,its,r',IsTup.new _ _⟩)
  exact⟨.ref h'.objs.size,_,I2,rfl,q _ (I1.hok.fresh (Nat.le_refl _))⟩
 ·obtain⟨its,r',pl,hz⟩:=I.tuple hq
  exact call_tuple_same pl ⟨.ref p,H,I,rfl,q⟩
def tyV (K:W.Frag) (T:String) (x:V) (H:Hp):Prop:=match x with
 | .str _=>T = "str"
 | .int _=>T = "int"
 | .ref p=>(T = "list" ∧ ∃xs,SqL K H p xs)∨(T = "tuple" ∧ ∃o,K.lookup p=some o∧o.cls=.type "tuple" ∧ o.dict=none)∨
   (T = "dict" ∧ ((∃kvs,H p=some (.dK kvs))∨∃kvs,H p=some (.dT kvs)))∨(T = "set" ∧ ∃S n,H p=some (.set S n))
 | _=>False
theorem tyV_is {pins:List (Addr×Obj)} {σ:St} {H:Hp} {s:Shared} {T:String} {x:V} {v:Value} (I:Inv X pins σ H s) (r:RelV x v) (ty:tyV X.K T x H):
  s.TypeIs v T∧∀a,v=.ref a->∃ob,s.heap.get? a=some ob∧ob.dict=none:=by
 cases x with
 | str z=>
  obtain⟨t,rfl⟩:=r
  cases (show T = "str" from ty)
  exact⟨typeIs_str s z t,fun _ e=>nomatch e⟩
 | int i=>
  obtain⟨t,rfl⟩:=r
  cases (show T = "int" from ty)
  exact⟨typeIs_int s i t,fun _ e=>nomatch e⟩
 | ref p=>
  cases r
  rcases ty with ⟨rfl,xs,hq⟩ | ⟨rfl,o,hk,hc,hd⟩ | ⟨rfl,hk⟩ | ⟨rfl,S,n,hk⟩
  ·obtain⟨its,_,pl,_⟩:=I.list hq
   refine⟨pl.isList.typeIs,fun a e=>?_⟩
   cases e
   obtain⟨o,n,e,c,hd,_⟩:=pl
   exact⟨o,e,hd⟩
  ·refine⟨⟨o,I.kIn p o hk,hc⟩,fun a e=>?_⟩
   cases e
   exact⟨o,I.kIn _ o hk,hd⟩
  ·have z:∃o,s.heap.get? p=some o∧o.ExactDict:=by
    rcases hk with ⟨kvs,hk⟩ | ⟨kvs,hk⟩
    ·obtain⟨_,_,_,_,o,_,_,e,ex,_⟩:=I.hok p _ hk
     exact⟨o,e,ex⟩
    ·obtain⟨_,_,_,_,o,_,_,e,ex,_⟩:=I.hok p _ hk
     exact⟨o,e,ex⟩
   obtain⟨o,e,ex⟩:=z
   refine⟨⟨o,e,ex.1⟩,fun a e2=>?_⟩
   cases e2
   exact⟨o,e,ex.2.1⟩
  ·obtain⟨o,_,_,_,e,ex,_⟩:=I.hok p _ hk
   refine⟨⟨o,e,ex.1⟩,fun a e2=>?_⟩
   cases e2
   exact⟨o,e,ex.2.1⟩
 | _=>exact False.elim ty
def tBM0 (K:W.Frag) (T:String) (r:V->List V->Hp->VK->Prop) (to:TE):TE:=fun σ H Q=>to σ H fun x H1=>tyV K T x H1∧r x [] H1 Q
def tBM (K:W.Frag) (T:String) (r:V->List V->Hp->VK->Prop) (to:TE) (t:TA):TE:=fun σ H Q=>to σ H fun x H1=>tyV K T x H1∧t σ H1 fun xs H2=>r x xs H2 Q
variable {o e:Expr} {es:List Expr} {to:TE} {t:TA} {name:Str} {apos cpos:Pos} {T id:String} {r:V->List V->Hp->VK->Prop}
theorem pe_bm0 (pa:PlainAttrs T) (slot:Slot T name id) (hty:typeOf (.builtin id)=pure (.type "method_descriptor")) (hm:MtR X id r) (ho:PE X o to)
  (hbase:attributeBase o name X.env (eval o X.env)=eval o X.env:=by rfl) (hline:(apos.endLine == cpos.line)=true:=by rfl):PE X (.Call (.Attribute o name apos) [] [] cpos) (tBM0 X.K T r to):=by
 intro pins s σ H Q I h
 refine wpAny_Call_method0_late hbase hline (thn (ho pins s σ H _ I h) fun v s1 ⟨x,H1,I1,r1,ty,q1⟩=>?_)
 obtain⟨h1,h2⟩:=tyV_is I1 r1 ty
 exact⟨T,id,pa,slot,hty,h1,h2,Calls.callWith_builtin rfl (PySem.evalArgs_none (hm pins s1 σ H1 x [] v [] Q I1 r1 .nil q1))⟩
theorem pe_bm (pa:PlainAttrs T) (slot:Slot T name id) (hty:typeOf (.builtin id)=pure (.type "method_descriptor")) (hm:MtR X id r) (ho:PE X o to) (ha:PA X (e :: es) t)
  (hbase:attributeBase o name X.env (eval o X.env)=eval o X.env:=by rfl)
  (hfew:((backTo cpos (starEach (e :: es) X.env)).all (fun x=>!x.1) && (backToKw cpos (keywordEach [] X.env)).all (fun x=>x.1.isSome)
   && decide ((e :: es).length+([]:List Keyword).length+(if ([]:List Keyword).isEmpty then 0 else 1) < 30))=true:=by rfl)
  (hline:(apos.endLine == cpos.line)=true:=by rfl) (hs:starEach (e :: es) X.env=(false,eval e X.env) :: starEach es X.env:=by rfl) (hplain:(backTo cpos (starEach es X.env)).any (·.1)=false:=by rfl):
  PE X (.Call (.Attribute o name apos) (e :: es) [] cpos) (tBM X.K T r to t):=by
 intro pins s σ H Q I h
 refine wpAny_Call_method_late hbase hfew hline rfl (thn (ho pins s σ H _ I h) fun v s1 ⟨x,H1,I1,r1,ty,q1⟩=>?_)
 obtain⟨h1,h2⟩:=tyV_is I1 r1 ty
 refine⟨T,id,pa,slot,hty,h1,h2,?_⟩
 have hA:=ha cpos pins s1 σ H1 _ I1 q1
 rw [hs] at hA ⊢
 refine Calls.callWith_builtin (by show (false || (backTo cpos (starEach es X.env)).any (·.1))=false;rw [hplain] <;> rfl) (Calls.evalArgs_plain ?_)
 exact thn hA fun us s2 ⟨vs,H2,I2,r2,q2⟩=>hm pins s2 σ H2 x vs v us Q I2 r1 r2 q2
/- xs.append(e),list.index on a module's tuple .. are MtR facts of 06m -/
end
def MtM (X:Cx) (id:String) (r:V->List V->Hp->VK->Prop):Prop:=
 ∀(pins:List (Addr×Obj)) (s:Shared) (σ:St) (H:Hp) (x:V) (xs:List V) (v:Value) (us:List Value) (Q:VK),Inv X pins σ H s->RelV x v->Vals xs us->r x xs H Q->
  wpAny (model X.prog X.w) X.A (call (.builtin id) (v :: us)) (EP X pins σ Q) X.xe s
theorem Vals.one:∀{x:V} {us:List Value},Vals [x] us->∃u,us=[u]∧RelV x u
 | _,_,.cons r .nil=>⟨_,rfl,r⟩
theorem Vals.zero:∀{us:List Value},Vals [] us->us=[]
 | _,.nil=>rfl
theorem Vals.dropLast {xs:List V} {us:List Value} (h:Vals xs us):Vals xs.dropLast us.dropLast:=by
 induction h with
 | nil=>exact .nil
 | cons r t ih=>
  cases t with
  | nil=>exact .nil
  | cons q t'=>exact .cons r ih
theorem erase_last {α:Type} (l:List α):l.eraseIdx (l.length - 1)=l.dropLast:=by
 induction l with
 | nil=>rfl
 | cons a r ih=>
  cases r with
  | nil=>rfl
  | cons b r=>
   have e:(a :: b :: r).length - 1=((b :: r).length - 1)+1:=by
    have h1:(a :: b :: r).length=r.length+2:=rfl
    have h2:(b :: r).length=r.length+1:=rfl
    omega
   rw [e,List.eraseIdx_cons_succ,ih]
   all_goals rfl
section
variable {X:Cx} {pins:List (Addr×Obj)} {σ:St} {H:Hp} {s:Shared} {l b:Addr} {xs ys zs:List V}
theorem Inv.lset {its its':List Value} {n:Nat} {f:Array Value->Array Value} {t':Nat} (I:Inv X pins σ H s) (hH:H l=some (.lst xs))
  (e:s.heap.get? l=some { cls:=.type "list",data:=.seq its.toArray n }) (hf:f its.toArray=its'.toArray) (hv:Vals ys its') (hz:ys.length<=sizeLine):
  Inv X pins σ (upd H l (.lst ys)) { s with heap:=s.heap.update l (Obj.mapSeq f),toks:=t' }:=by
 have q:=PySem.IsL.update e f
 rw [hf] at q
 refine I.write (x:=l) (e:=l) (by rw [hH];exact trivial) (.inl rfl) (fun b' u hb hu=>(Heap.get?_update_other s.heap (Obj.mapSeq f) (Ne.symm hb)).trans hu) ⟨_,q⟩ ?_
 exact⟨hz,its',_,hv,q⟩
theorem Inv.lnew {its:List Value} {t':Nat} (I:Inv X pins σ H s) (hv:Vals ys its) (hz:ys.length<=sizeLine):
  Inv X pins σ (upd H s.heap.objs.size (.lst ys)) { s with heap:=s.heap.push { cls:=.type "list",data:=.seq its.toArray },toks:=t' }:=
 I.laid (fun _ _ q=>Heap.get?_push_of_some _ q) (Nat.le_refl _) ⟨hz,its,0,hv,Heap.get?_push_size _ rfl⟩
theorem Inv.fresh (I:Inv X pins σ H s):H s.heap.objs.size=none:=I.hok.fresh (Nat.le_refl _)
theorem Inv.lstM (I:Inv X pins σ H s) (hH:H l=some (.lst xs)):xs.length<=sizeLine∧∃(its:List Value) (n:Nat),Vals xs its∧xs.length=its.length∧s.heap.get? l=some { cls:=.type "list",data:=.seq its.toArray n }:=by
 obtain⟨z,its,n,r,e⟩:=I.hok l _ hH
 exact⟨z,its,n,r,r.length,e⟩
theorem notLongL {n:Nat} (h:n<=sizeLine):Builtin.List.listTooLong n=false:=by
 unfold Builtin.List.listTooLong
 exact decide_eq_false (by omega)
end
section
variable {X:Cx}
def rAppend:V->List V->Hp->VK->Prop:=fun x vs H Q=>∃l xs y,x=.ref l∧vs=[y]∧H l=some (.lst xs)∧xs.length < sizeLine∧Q .non (upd H l (.lst (xs++[y])))
theorem mt_append:MtM X "list.append" rAppend:=by
 intro pins s σ H x vs v us Q I rx rv h
 obtain⟨l,xs,y,rfl,rfl,hH,hz,q⟩:=h
 cases rx
 obtain⟨u,rfl,ru⟩:=rv.one
 obtain⟨z,its,n,r,hl,e⟩:=I.lstM hH
 refine call_meets F.slot_list_append ⟨_,e,rfl⟩ F.entry_list_append (F.args_list_append_2 _ _) (PySem.list_append l its.toArray n u (by rw [List.size_toArray];omega)) ⟨e,?_⟩
 refine⟨.non,_,I.lset (its':=its++[u]) hH e (by simp) (r.append (.cons ru .nil)) ?_,rfl,q⟩
 rw [List.length_append,List.length_singleton]
 omega
def rExtend:V->List V->Hp->VK->Prop:=fun x vs H Q=>∃l b xs zs,x=.ref l∧vs=[.ref b]∧H l=some (.lst xs)∧H b=some (.lst zs)∧xs.length+zs.length<=sizeLine∧Q .non (upd H l (.lst (xs++zs)))
theorem mt_extend:MtM X "list.extend" rExtend:=by
 intro pins s σ H x vs v us Q I rx rv h
 obtain⟨l,b,xs,zs,rfl,rfl,hH,hB,hz,q⟩:=h
 cases rx
 obtain⟨u,rfl,ru⟩:=rv.one
 cases ru
 obtain⟨z,its,n,r,hl,e⟩:=I.lstM hH
 obtain⟨z2,its2,n2,r2,hl2,e2⟩:=I.lstM hB
 have hsz:its.toArray.size+its2.toArray.size<=sizeLine:=by rw [List.size_toArray,List.size_toArray];omega
 have hlong:¬(!its.toArray.isEmpty && Builtin.List.listTooLong (its.toArray.size+its2.toArray.size))=true:=by
  rw [notLongL hsz,Bool.and_false]
  exact Bool.false_ne_true
 refine call_meets F.slot_list_extend ⟨_,e,rfl⟩ F.entry_list_extend (F.args_list_extend_2 _ _)
  (AutoSeq1.list_extend_list_list_0 l its.toArray n b its2.toArray n2 hlong (by rw [List.size_toArray];omega) (by omega)) ⟨e,e2,?_⟩
 refine⟨.non,_,I.lset (its':=its++its2) hH e (by simp) (r.append r2) ?_,rfl,q⟩
 rw [List.length_append]
 omega
def rPop:V->List V->Hp->VK->Prop:=fun x vs H Q=>∃l xs y,x=.ref l∧vs=[]∧H l=some (.lst xs)∧xs[xs.length - 1]?=some y∧Q y (upd H l (.lst xs.dropLast))
theorem mt_pop:MtM X "list.pop" rPop:=by
 intro pins s σ H x vs v us Q I rx rv h
 obtain⟨l,xs,y,rfl,rfl,hH,hy,q⟩:=h
 cases rx
 have hus:=rv.zero
 subst hus
 obtain⟨z,its,n,r,hl,e⟩:=I.lstM hH
 obtain⟨u,hu,ru⟩:=r.get hy
 have hy':its.toArray[its.toArray.size - 1]?=some u:=by
  show its.toArray[its.length - 1]?=some u
  rw [← Array.getElem?_toList,← hl]
  exact hu
 refine call_meets F.slot_list_pop ⟨_,e,rfl⟩ F.entry_list_pop (F.args_list_pop_1 _) (MeetsSeq.list_pop_last l its.toArray n u hy' (by rw [List.size_toArray];omega)) ⟨e,?_⟩
 refine⟨y,_,I.lset (its':=its.dropLast) hH e ?_ r.dropLast ?_,ru,q⟩
 ·show its.toArray.eraseIdxIfInBounds (its.toArray.size - 1)=its.dropLast.toArray
  rw [List.size_toArray,List.eraseIdxIfInBounds_toArray,erase_last]
 ·rw [List.length_dropLast]
  omega
def rClear:V->List V->Hp->VK->Prop:=fun x vs H Q=>∃l xs,x=.ref l∧vs=[]∧H l=some (.lst xs)∧Q .non (upd H l (.lst []))
theorem mt_clear:MtM X "list.clear" rClear:=by
 intro pins s σ H x vs v us Q I rx rv h
 obtain⟨l,xs,rfl,rfl,hH,q⟩:=h
 cases rx
 have hus:=rv.zero
 subst hus
 obtain⟨z,its,n,r,hl,e⟩:=I.lstM hH
 refine call_meets F.slot_list_clear ⟨_,e,rfl⟩ F.entry_list_clear (F.args_list_clear_1 _) (AutoSeq1.list_clear_list_0 l its.toArray n (by rw [List.size_toArray];omega)) ⟨e,?_⟩
 exact⟨.non,_,I.lset (its':=[]) (ys:=[]) hH e rfl .nil (Nat.zero_le _),rfl,q⟩
def rCat:R2:=fun x y H Q=>∃l b xs zs,x=.ref l∧y=.ref b∧H l=some (.lst xs)∧H b=some (.lst zs)∧xs.length+zs.length<=sizeLine∧∀p,H p=none->Q (.ref p) (upd H p (.lst (xs++zs)))
theorem op_cat:OpR X (binaryOp .Add) rCat:=by
 intro pins s σ H x y v u Q I rx ry h
 obtain⟨l,b,xs,zs,rfl,rfl,hH,hB,hz,q⟩:=h
 cases rx
 cases ry
 obtain⟨z,its,n,r,hl,e⟩:=I.lstM hH
 obtain⟨z2,its2,n2,r2,hl2,e2⟩:=I.lstM hB
 refine PySem.P.add_list e e2 ?_ (by rw [List.size_toArray,List.size_toArray];omega)
 have ea:its.toArray++its2.toArray=(its++its2).toArray:=by simp
 rw [ea]
 exact⟨.ref _,_,I.lnew (t':=s.toks) (r.append r2) (by rw [List.length_append];omega),rfl,q _ I.fresh⟩
def rRep:R2:=fun x y H Q=>∃l k xs,x=.ref l∧y=.int k∧H l=some (.lst xs)∧-(2 ^ 63)<=k∧k < 2 ^ 63∧xs.length * k.toNat<=sizeLine∧
 ∀p,H p=none->Q (.ref p) (upd H p (.lst (List.replicate k.toNat xs).flatten))
end
section
variable {prog:Program} {w:World} {A:Around} {E:Value->Shared->Prop} {s:Shared}
end
section
variable {X:Cx}
end
end L2
namespace Att
open PySem PySem.W PySem.Calls PyProof.Rows
theorem ints_of_wellAll {P:Params} {h:Heap}:∀(ns:List Int) (vs:List Value),WellAll P h vs (ns.map WData.int)->IntsAre vs ns:=by
 intro ns
 induction ns with
 | nil=>
  intro vs w
  rw [List.map_nil] at w
  cases w
  exact .nil
 | cons n ns ih=>
  intro vs w
  rw [List.map_cons] at w
  cases w with
  | cons a b=>
   cases a
   exact .cons _ _ (ih _ b)
theorem script_of {l:OpenLaw} {n:Nat} (hn:l.most=some n) {P:Params} {h:Heap} {args:List WData} {vals:List Value}
  (hpre:l.row.toRowW.claim.pre args=true) (hwl:WellAll P h vals args):
  ∃a vs ns,vals=[Value.ref a]∧args=[WData.list (ns.map WData.int)]∧h.get? a=some { cls:=.type "list",data:=.seq vs.toArray }∧IntsAre vs ns∧ns.length<=n:=by
 have hsh:WShape.hasAll [] args [.list .int]=true:=(pre_splitW hpre).1
 have hc:l.pre.holds [] { args:=args }=true:=(pre_splitW hpre).2
 obtain⟨d,r,rfl,h1,h2⟩:=hasAllW_cons hsh
 obtain rfl:=hasAllW_nil h2
 obtain⟨xs,rfl,h3⟩:=hasW_list h1
 obtain⟨ns,rfl⟩:=items_int h3
 have hlen:ns.length<=n:=by
  unfold OpenLaw.pre at hc
  have h4:(WTm.not (.lt (.lit (.int (n:Int))) (.len (.arg 0)))).holds [] { args:=[.list (ns.map .int)] }=true:=by
   have h4:=(holds_andW hc).1
   rw [hn] at h4
   exact h4
  have h5:=condW_of h4 (w_not (w_lt w_lit (w_len_list (w_arg rfl))))
  rw [List.length_map] at h5
  refine Nat.le_of_not_lt fun q=>?_
  have q':(n:Int) < ((ns.length:Nat):Int):=by omega
  first
   |(rw [decide_eq_true q'] at h5;exact absurd h5 (by decide))
   |(simp at h5;omega)
 cases hwl with
 | cons w1 w2=>
  cases w2
  cases w1 with
  | list ho hall=>exact⟨_,_,ns,rfl,rfl,ho,ints_of_wellAll ns _ hall,hlen⟩
theorem post_true (l:OpenLaw) (args:List WData):l.row.toRowW.claim.post args (.bool true) args=true:=
 postW_of (r:=l.row.toRowW) (X:=(true == true))
  (show WShape.has [] (.bool true) .bool=true by first | rfl | decide | simp [WShape.has,WShape.arms,WShape.armsAll])
  (show (WTm.eq .res (.lit (.bool true))).value [] { args:=args,res:=some (.bool true),after:=args }=some (.bool (true == true)) from w_eq_bool (w_res rfl) w_lit) rfl
theorem attach_call {l:OpenLaw} {n:Nat} {q:Program} {loose:List Str} {XP:(Str->Option Value)->Heap->Prop} {YP:World->Heap->Prop} {d:DefRec}
  (hn:l.most=some n) (hdf:d.params.defaults=[])
  (call:∀(w:World) (s₀ s₁:Shared) (mg mb:Str->Option Value) (fa:Addr) (o:Obj) (pm cd doc:Value) (a:Addr) (vs:List Value) (ns:List Int),
   Ground q loose [] XP w s₀ mg mb s₁.heap->YP w s₁.heap->
   s₁.heap.get? fa=some o->o.data=.func (docDef d.name d.params d.body d.scope pm cd doc)->s₁.heap.CodeRec cd d.name->mg d.name=some (.ref fa)->
   s₁.heap.get? a=some { cls:=.type "list",data:=.seq vs.toArray }->IntsAre vs ns->ns.length<=n->s₁.gens=#[]->
   codeAny (model l.prog w) callerA (.call (.ref fa) ⟨[.ref a],[]⟩) (fun r s'=>r=.ok (.ret (.bool true))∧OldK s₁.heap s'.heap∧s'.os=s₁.os∧AllBare s'.gens) s₁):
  WalkO q loose XP YP l.row.toRowW d [] (fun f vs=>PySem.call f vs):=by
 intro w s₀ s₁ mg mb G Y fa o pm cd doc dV kV ho hd hcd hD hmg hg args vals as hpre hlay hrd hwl hlo
 obtain rfl:dV=.none:=Dflts.none hD hdf
 obtain rfl:kV=.none:=Dflts.noKw hD
 obtain⟨a,vs,ns,rfl,rfl,hobj,hints,hlen⟩:=script_of hn hpre hwl
 refine enter_call (codeAny_mono (call w s₀ s₁ mg mb fa o pm cd doc a vs ns G Y ho (fd_plain hd) hcd hmg hobj hints hlen hg) fun r s' hq=>?_)
 obtain⟨rfl,h2,h3,h4⟩:=hq
 exact⟨.inl ⟨.bool true,.bool true,[],rfl,fun _=>rfl,.bool true,post_true l _,fun _=>⟨List.Pairwise.nil,fun _ hm=>(nomatch hm)⟩⟩,h2,h3,h4⟩
section
variable {prog:Program} {w:World} {A:Around} {E:Value->Shared->Prop} {s:Shared} {K:Frag}
def ledger (h:Heap) (L d:Addr):List (Addr×Obj):=(List.range h.objs.size).filterMap fun a=>if a=L∨a=d then none else (h.get? a).map fun o=>(a,o)
end
end Att
namespace L2
open PySem PySem.Spec PyProof.Rows
theorem vals_ints:∀{vs:List Value} {ns:List Int},IntsAre vs ns->Vals (ns.map V.int) vs
 | _,_,.nil=>.nil
 | _,_,.cons n t h=>.cons ⟨t,rfl⟩ (vals_ints h)
def Only (H:Hp):Prop:=∀b,H b=none∨∃o xs,H b=some (.frz o (.lst xs))
theorem law_call {P:Program} {w:World} {K:W.Frag} {mg mb:Str->Option Value} {CX:CXT} {k:Nat} {fa a:Addr} {fd:FuncData} {x:Str} {sp:Sp} {s₁:Shared} {vs:List Value} {ns:List Int}
  (KX:K.In s₁.heap) (hns:s₁.heap.Ns mainGlobals mg) (hb:s₁.heap.Ns builtinsNs mb) (hbb:∀x:Str,x ≠ "__name__" -> mb x=bootBuiltins x) (hlim:s₁.heap.NoLimit) (hg:s₁.gens=#[])
  (ha:s₁.heap.get? a=some { cls:=.type "list",data:=.seq vs.toArray }) (hi:IntsAre vs ns) (hl:ns.length<=sizeLine) (hr:Room k callerA)
  (F:∀base:Heap,K.In base->base.Ns mainGlobals mg->FnOk P w K mg base CX k fa fd [x] sp) (hbind:∀(s:Shared) (u:Value),BindsTo s fd ⟨[u],[]⟩ [(x,u)])
  (hsp:∀H:Hp,Only H->SqL K H a (ns.map V.int)->sp [.ref a] H (fun v _=>v=.bl true) fun _ _ _=>False)
  (hCX:∀H e s',CX [] H s₁ (fun _ _ _=>False) e s'->False):
  codeAny (model P w) callerA (.call (.ref fa) ⟨[.ref a],[]⟩) (fun r s'=>r=.ok (.ret (.bool true))∧OldK s₁.heap s'.heap∧s'.os=s₁.os∧AllBare s'.gens) s₁:=by
 have rv:=vals_ints hi
 have lenV:=hi.length
 have core:∀H:Hp,Only H->SqL K H a (ns.map V.int)->HOk P w H s₁.heap->(∀b,H b≠none->b=a)->(H a≠none->K.lookup a=none)->
   codeAny (model P w) callerA (.call (.ref fa) ⟨[.ref a],[]⟩) (fun r s'=>r=.ok (.ret (.bool true))∧OldK s₁.heap s'.heap∧s'.os=s₁.os∧AllBare s'.gens) s₁:=by
  intro H hO hS hok hA hK
  have base_of:∀{b:Addr} {o:Obj},s₁.heap.get? b=some o->H b=none->(hidT s₁.heap H).get? b=some o:=fun e n=>hidT_get e n
  have noA:∀{b:Addr} {o:Obj} {es:Array DictEntry} {ep:Nat},s₁.heap.get? b=some o->o.data=.dict es ep->H b=none:=fun {b o es ep} e d=>by
   cases q:H b with
   | none=>rfl
   | some u=>
    have e':b=a:=hA b (by rw [q];simp)
    subst e'
    rw [ha] at e;cases e
    have d':Data.seq vs.toArray _=Data.dict es ep:=d
    cases d'
  have nsK:∀{b:Addr} {m:Str->Option Value},s₁.heap.Ns b m->(hidT s₁.heap H).Ns b m:=fun {b m} ⟨o,es,ep,e,d,r⟩=>⟨o,es,ep,base_of e (noA e d),d,r⟩
  have hKb:K.In (hidT s₁.heap H):=fun b o e=>base_of (KX b o e) (by
   cases q:H b with
   | none=>rfl
   | some u=>
    have e':b=a:=hA b (by rw [q];simp)
    subst e'
    rw [hK (by rw [q];simp)] at e;cases e)
  have hM:Mod K mg (hidT s₁.heap H):=⟨hKb,nsK hns,⟨mb,nsK hb,hbb⟩,let ⟨mc,h1,h2⟩:=hlim;⟨mc,nsK h1,h2⟩⟩
  have e0:Env0 P w K mg (hidT s₁.heap H) callerA [] s₁ H:=⟨rfl,hM,fun b o e=>of_hidT e,Nat.le_of_eq (hidT_size _ _),trivial,fun b hb=>absurd (show b∈([]:List Addr) from hb) (by simp),hok,.of_eq hg⟩
  refine codeAny_mono ((F _ hKb (nsK hns)).run callerA [] s₁ H ⟨[.ref a],[]⟩ [.ref a] [.ref a] _ _ hr e0 (hbind s₁ (.ref a)) (.cons rfl .nil) (hsp H hO hS)) fun r s' h=>?_
  cases r with
  | error e=>exact (hCX H e s' h).elim
  | ok fl=>
   cases fl with
   | next=>exact False.elim h
   | brk=>exact False.elim h
   | cont=>exact False.elim h
   | ret u=>
    obtain⟨v,H',os,bare,un,hok',r',q⟩:=h
    have q':v=.bl true:=q
    subst q'
    obtain rfl:u=Value.bool true:=r'
    refine⟨rfl,OldK.of_keep fun b o e=>?_,os,bare⟩
    cases q:H b with
    | none=>exact un.keep b o e q (by intro z;exact absurd (show b∈([]:List Addr) from z) (by simp)) (by simp)
    | some u=>
     rcases hO b with z | ⟨ob,xs,z⟩
     ·rw [q] at z;cases z
     ·have z2:=un.frzs b ob _ z
      obtain⟨e1,_⟩:=hok b _ z
      obtain⟨e2,_⟩:=hok' b _ z2
      rw [e] at e1;cases e1
      exact e2
 cases hk:K.lookup a with
 | some o=>
  have e:=KX a o hk
  rw [ha] at e
  cases e
  refine core (fun _=>none) (fun _=>.inl rfl) (.inr ⟨_,vs.toArray,_,hk,rfl,rfl,rfl,by rw [List.size_toArray,lenV];exact hl,by simpa using rv⟩) (fun b u z=>by have z':(none:Option HO)=some u:=z;cases z') (fun b z=>absurd rfl z) fun z=>absurd rfl z
 | none=>
  refine core (fun b=>if b=a then some (.frz { cls:=.type "list",data:=.seq vs.toArray } (.lst (ns.map V.int))) else none) (fun b=>?_) (.inl (.inr ⟨{ cls:=.type "list",data:=.seq vs.toArray },if_pos rfl⟩)) (fun b u z=>?_) (fun b z=>?_) fun _=>hk
  ·by_cases hb:b=a
   ·exact .inr ⟨_,_,if_pos hb⟩
   ·exact .inl (if_neg hb)
  ·by_cases hb:b=a
   ·have z':=(if_pos hb).symm.trans z
    cases z'
    subst hb
    exact⟨ha,by rw [List.length_map];exact hl,vs,_,rv,ha⟩
   ·have z':=(if_neg hb).symm.trans z
    cases z'
  ·by_cases hb:b=a
   ·exact hb
   ·exact absurd (if_neg hb) z
theorem walk_of {l:PySem.W.OpenLaw} {n k:Nat} {q:Program} {loose:List Str} {XP:(Str->Option Value)->Heap->Prop} {YP:World->Heap->Prop} {d:DefRec} {K:Params->W.Frag} {CX:World->CXT} {sp:World->Sp} {x:Str}
  (hn:l.most=some n) (hn2:n<=sizeLine) (hdf:d.params.defaults=[]) (hr:Room k callerA)
  (hY:∀(w:World) (h:Heap),YP w h->(K w.params).In h)
  (F:∀(w:World) (mg:Str->Option Value) (fa:Addr) (h:Heap),(K w.params).In h->h.Ns mainGlobals mg->mg d.name=some (.ref fa)->
   ∃fd:FuncData,(∀(s:Shared) (u:Value),BindsTo s fd ⟨[u],[]⟩ [(x,u)])∧
    ∀base:Heap,(K w.params).In base->base.Ns mainGlobals mg->FnOk l.prog w (K w.params) mg base (CX w) k fa fd [x] (sp w))
  (hsp:∀(w:World) (H:Hp) (a:Addr) (ns:List Int),ns.length<=n->Only H->SqL (K w.params) H a (ns.map V.int)->sp w [.ref a] H (fun v _=>v=.bl true) fun _ _ _=>False)
  (hCX:∀(w:World) (H:Hp) (s:Shared) (e:Value) (s':Shared),CX w [] H s (fun _ _ _=>False) e s'->False):
  PySem.W.WalkO q loose XP YP l.row.toRowW d [] (fun f vs=>PySem.call f vs):=by
 refine Att.attach_call hn hdf fun w s₀ s₁ mg mb fa o pm cd doc a vs ns G Y ho hd hcd hmg hobj hints hlen hg=>?_
 have KX:=hY w _ Y
 obtain⟨fd,hb,hF⟩:=F w mg fa _ KX G.T.g hmg
 exact law_call KX G.T.g G.T.b G.T.builtins G.T.nolimit hg hobj hints (Nat.le_trans hlen hn2) hr hF hb (fun H hO hS=>hsp w H a ns hlen hO hS) fun H e s'=>hCX w H s₁ e s'
def defArgs (s:Stmt):Arguments:=match s with
 | .FunctionDef _ a _ _ _ _ _ _ _ _=>a
 | _=>{ posonlyargs:=[],args:=[],vararg:=none,kwonlyargs:=[],kw_defaults:=[],kwarg:=none,defaults:=[] }
def defBody (s:Stmt):List Stmt:=match s with
 | .FunctionDef _ _ b _ _ _ _ _ _ _=>b
 | _=>[]
def defScope (s:Stmt):Scope:=match s with
 | .FunctionDef _ _ _ _ _ _ sc _ _ _=>sc
 | _=>{ kind:=.function,names:=[],isGenerator:=false,isCoroutine:=false }
abbrev CX0:CXT:=fun _ _ _ _ _ _=>False
abbrev E0:XK:=fun _ _ _=>False
theorem pass0 {X:Cx}:Passes CX0 X E0:=fun _ _ _ _ _ _ _ h=>h.elim
structure Fun (K:W.Frag) (x qual:Str) (st:Stmt) (f:Addr) (fd:FuncData):Prop where
 ex:∃(oc:Value) (od:Option Addr) (kV doc pm:Value) (an:Option Addr) (cdv ct:Value) (osl:Array (Option Value)),
  fd=PySem.W.fnOf x qual (defArgs st) (defBody st) (defScope st) .none kV doc pm an cdv ct∧K.lookup f=some ⟨oc,od,.func fd,osl⟩∧PySem.W.codeIn K cdv qual=true
 kp:PySem.W.keepIn K (.ref f)=true
section
variable {P:Program} {w:World} {K:W.Frag} {mg:Str->Option Value} {base:Heap}
theorem Fun.ok {x qual:Str} {st:Stmt} {f:Addr} {fd:FuncData} {N ps:List Str} {k:Nat} {sp:Sp} (F:Fun K x qual st f fd) (S:FnScope N ps (defScope st)) (len:∀vs H Q E,sp vs H Q E->vs.length=ps.length)
  (hbody:∀(cdv:Value) (A:Around) (outer:List Env) (s:Shared) (H:Hp) (vs:List V) (Q:VK) (E:XK),Room k (A.deeper (envOfC qual (defScope st) s.heap.objs.size f cdv))->sp vs H Q E->
   ∃t,PSs (cxOf CX0 P w K mg base N qual (defScope st) f cdv A outer s H E).nox (defBody st) t∧t { nx:=fun _ H'=>Q .non H',rt:=Q } (start N vs) H):FnOk P w K mg base CX0 (k+1) f fd ps sp:=by
 obtain⟨oc,od,kV,doc,pm,an,cdv,ct,osl,rfl,lk,hcd⟩:=F.ex
 refine fn_of lk hcd S len fun A outer s H vs Q E hr hsp=>?_
 obtain⟨t,h,q⟩:=hbody cdv A outer s H vs Q E hr hsp
 exact⟨t,h.nox,q⟩
theorem Fun.binds {x qual:Str} {st:Stmt} {f:Addr} {fd:FuncData} {ps:List Str} (F:Fun K x qual st f fd)
  (h:∀(kV doc pm:Value) (an:Option Addr) (cdv ct:Value) (us:List Value),us.length=ps.length->bindArgs (PySem.W.fnOf x qual (defArgs st) (defBody st) (defScope st) .none kV doc pm an cdv ct) ⟨us,[]⟩=pure (ps.zip us)):Binds K fd ps []:=by
 obtain⟨oc,od,kV,doc,pm,an,cdv,ct,osl,rfl,lk,hcd⟩:=F.ex
 exact .all (h kV doc pm an cdv ct)
theorem fun_mk {x qual:Str} {st:Stmt} {f:Addr} {oc:Value} {od an:Option Addr} {osl:Array (Option Value)} {kV doc pm cdv ct:Value} (l:K.lookup f=some ⟨oc,od,.func (PySem.W.fnOf x qual (defArgs st) (defBody st) (defScope st) .none kV doc pm an cdv ct),osl⟩)
  (c:PySem.W.codeIn K cdv qual=true) (k:PySem.W.keepIn K (.ref f)=true):Fun K x qual st f (PySem.W.fnOf x qual (defArgs st) (defBody st) (defScope st) .none kV doc pm an cdv ct):=⟨⟨oc,od,kV,doc,pm,an,cdv,ct,osl,rfl,l,c⟩,k⟩
end
theorem small1000 {n:Nat} (h:n<=1000):n < sizeLine:=Nat.lt_of_le_of_lt h (by decide)
section
variable {X:Cx}
theorem pv (i:Nat) {x:Str} {pos:Pos} (hN:X.N[i]?=some x:=by rfl) (hv:Vis X.env.scope x:=by first | exact Or.inl rfl | exact Or.inr (Or.inl rfl) | exact Or.inr (Or.inr rfl)) (hd:(x == ("__debug__" : Str))=false:=by decide)
  (hcd:(x == ("__classdict__" : Str))=false:=by decide):PE X (.Name x pos) (tVar i):=pe_var hN hv hd hcd
end
theorem ite2 {c A B:Prop} [Decidable c] (h1:c->A) (h2:¬c->B):if c then A else B:=by
 by_cases h:c
 ·rw [if_pos h]
  exact h1 h
 ·rw [if_neg h]
  exact h2 h
def Same (H H':Hp):Prop:=∀b o,H b=some o->H' b=some o
theorem Same.refl (H:Hp):Same H H:=fun _ _ h=>h
theorem Same.trans {H H1 H2:Hp} (a:Same H H1) (b:Same H1 H2):Same H H2:=fun c o h=>b c o (a c o h)
theorem Same.free {H H':Hp} (e:Same H H') {l:Addr} (h:H' l=Option.none):H l=Option.none:=by
 cases q:H l with
 | none=>rfl
 | some o=>
  rw [e l o q] at h
  cases h
theorem Same.seq {K:W.Frag} {H H':Hp} {a:Addr} {xs:List V} (e:Same H H') (h:SqL K H a xs):SqL K H' a xs:=by
 rcases h with (h | ⟨o,h⟩) | h
 ·exact .inl (.inl (e _ _ h))
 ·exact .inl (.inr ⟨o,e _ _ h⟩)
 ·exact .inr h
@[reducible] def blk (X:Cx) (x:Str) (fv:List (Nat×Str)) (scope:Scope) (cl:List (Str×Addr)) (C:Addr) (s:Shared) (H:Hp) (fp:List Addr):Cx where
 prog:=X.prog
 w:=X.w
 K:=X.K
 mg:=X.mg
 base:=X.base
 A:=X.A
 N:=x :: fv.map (·.2)
 s₀:=s
 H₀:=H
 env:=compEnvC scope cl C X.env
 outer:=X.stack
 stack:=X.stack
 ex:=fp
 fn:=fun _=>false
 calm:=X.calm
 pn:=[]
 xe:=fun _ _=>False
def bst (fv:List (Nat×Str)) (σ:St) (v:Option V):St:=v :: fv.map fun p=>(σ[p.1]?).getD none
structure BlkOk (X:Cx) (x:Str) (fv:List (Nat×Str)) (scope:Scope) (cl:List (Str×Addr)):Prop where
 clos:closureFor scope X.env=pure cl
 nocell:∀y∈scope.names,y.2≠.cell
 kind:scope.kind=.function
 names:∀y∈scope.names,y.2=.local->scope.names.lookup y.1=some .local
 here:scope.names.lookup x=some .local
 sub:∀y c,cl.lookup y=some c->X.env.cells.lookup y=some c
 has:∀y,((relabel scope X.env).names.lookup y=some .cell∨(relabel scope X.env).names.lookup y=some .free)->∃c,cl.lookup y=some c
 fvs:∀p∈fv,p.2≠x∧X.N[p.1]?=some p.2∧(X.env.scope.names.lookup p.2=some .cell∨X.env.scope.names.lookup p.2=some .free)∧
  ((relabel scope X.env).names.lookup p.2=some .cell∨(relabel scope X.env).names.lookup p.2=some .free)∧∃c,cl.lookup p.2=some c
theorem compLoop_one {prog:Program} {w:World} {A:Around} {R:Result->Shared->Prop} {s:Shared} {elt target iter:Expr} {scope:Scope} {pos:Pos} {it acc:Value} {env:Env} (I:Nat->Shared->Prop)
  (turn:∀n s (E:Value->Shared->Prop),I n s->wpAny (model prog w) A (pyNext it) (fun r s₁=>match r with
   | none=>R (.ok .next) s₁
   | some v=>wpAny (model prog w) A (letOwnedTupleGo target it v) (fun _ s₂=>wpAny (model prog w) A (assign target env v) (fun _ s₃=>wpAny (model prog w) A (eval elt env) (fun x s₄=>
     wpAny (model prog w) A (call (.builtin "list.append") [acc,x]) (fun _ s₅=>∃m,m < n∧I m s₅) E s₄) E s₃) E s₂) E s₁) E s)
  (n:Nat) (h:I n s):
  codeAny (model prog w) A (.compLoop (.ListComp elt [⟨target,iter,[],0⟩] scope pos) 0 it acc env) R s:=by
 refine codeAny_loop rfl I (fun n s hI=>?_) n h
 show wpAny _ _ ((compTurn (.ListComp elt [⟨target,iter,[],0⟩] scope pos) 0 it acc env).onRaise (fun x=>do noteFrame x env;theTreesLotGoes x)) _ _ s
 refine wpAny_noted ?_
 rw [PySem.compTurn_list1]
 refine wpAny_bind (wpAny_standAt (wpAny_bind (wpAny_mono (turn n s _ hI) (fun r s₁ h₁=>?_) fun _ _ h'=>h')))
 cases r with
 | none=>exact wpAny_pure h₁
 | some v=>
  exact wpAny_bind (thn h₁ fun _ s₂ h₂=>wpAny_bind (thn h₂ fun _ s₃ h₃=>wpAny_bind (wpAny_bind (thn h₃ fun x s₄ h₄=>wpAny_bind (thn h₄ fun _ s₅ h₅=>wpAny_pure (wpAny_pure ⟨rfl,h₅⟩))))))
section
variable {X:Cx} {elt iter:Expr} {x:Str} {px:Pos} {fv:List (Nat×Str)} {scope:Scope} {cl:List (Str×Addr)} {pos:Pos} {te:TE} {wi:TI}
def tComp (fv:List (Nat×Str)) (wi:TI) (te:TE):TE:=fun σ H Q=>wi σ H fun J H1=>∀D,H1 D=none->∃W:Nat->Nat->Hp->Prop,(∃m,W 0 m (upd H1 D (.lst [])))∧∀i m H,W i m H->
 (J.stop i H∧Q (.ref D) H)∨(J.go i H∧∃N:Hp->Prop,(∀H',N H'->∃m',m' < m∧W (i+1) m' H')∧∀v H',J.yld i H v H'->te (bst fv σ (some v)) H' fun y H2=>∃ys,H2 D=some (.lst ys)∧ys.length < sizeLine∧N (upd H2 D (.lst (ys++[y]))))
theorem blk_ok {pins:List (Addr×Obj)} {σ:St} {H:Hp} {s:Shared} {fp:List Addr} {C:Addr} (B:BlkOk X x fv scope cl) (I:Inv X pins σ H s) (hf:∀b∈fp,FpOk X pins H b) (hC:s.heap.objs.size<=C) (hfC:∀b∈fp,b≠C):
  (blk X x fv scope cl C s H fp).Ok where
 mod:=I.ok.mod
 kind:=B.kind
 glob:=I.ok.glob
 blt:=I.ok.blt
 above:=hC
 inj:=fun y z c h1 h2=>I.ok.inj y z c (B.sub y c h1) (B.sub z c h2)
 has:=fun y hy=>B.has y hy
 cab:=fun y c h=>nomatch h
 hd:=I.ok.hd
 frames:=I.ok.frames
 stk:=.inl rfl
 exf:=fun b hb=>⟨hfC b hb,fun y c e=>(hf b hb).2.2.2.2.1 y c (B.sub y c e)⟩
 bs:=I.bs
 bsz:=Nat.le_trans I.ok.bsz I.sz
 noex:=fun b o e hb=>by
  obtain⟨_,_,_,f3,_⟩:=hf b hb
  rcases f3 with z | z
  ·exact I.ok.noex b o e z
  ·exact absurd (Nat.lt_of_lt_of_le (Heap.lt_size e) (Nat.le_trans I.ok.bsz z)) (Nat.lt_irrefl _)
 exfs:=fun b hb hs=>by
  obtain⟨_,f1,f2,_⟩:=hf b hb
  rcases List.mem_cons.mp (I.stkSub b hs) with z | z
  ·exact f1 z
  ·exact f2 z
 funs:=I.stack
 frf:=I.stkFree
theorem bst_get {fv:List (Nat×Str)} {σ:St} {o:Option V} {j:Nat} {y:Str} {v:V} (h1:(x :: fv.map (·.2))[j+1]?=some y) (h2:(bst fv σ o)[j+1]?=some (some v)):∃p∈fv,p.2=y∧σ[p.1]?=some (some v):=by
 have e1:(fv.map (·.2))[j]?=some y:=by simpa using h1
 have e2:(fv.map fun p=>(σ[p.1]?).getD none)[j]?=some (some v):=by simpa [bst] using h2
 rw [List.getElem?_map] at e1 e2
 cases q:fv[j]? with
 | none=>rw [q] at e1;cases e1
 | some p=>
  rw [q] at e1 e2
  refine⟨p,List.mem_of_getElem? q,Option.some.inj e1,?_⟩
  have e3:(σ[p.1]?).getD none=some v:=Option.some.inj e2
  cases r:σ[p.1]? with
  | none=>rw [r] at e3;cases e3
  | some w=>rw [r] at e3;exact congrArg some e3
theorem blk_start {pins:List (Addr×Obj)} {σ:St} {H:Hp} {s s4:Shared} {fp:List Addr} {C:Addr} {m:Str->Option Value} (B:BlkOk X x fv scope cl) (I:Inv X pins σ H s) (hf:∀b∈fp,FpOk X pins H b) (hC:C=s.heap.objs.size)
  (hfC:∀b∈fp,b≠C) (os:s4.os=s.os) (gens:s4.gens=s.gens) (keep:∀b o,s.heap.get? b=some o->s4.heap.get? b=some o) (ns:s4.heap.Ns C m):
  Inv (blk X x fv scope cl C s H fp) [] (bst fv σ none) H s4:=by
 subst hC
 refine⟨blk_ok B I hf (Nat.le_refl _) hfC,os,by rw [gens];exact I.bare,Un.kept keep,⟨m,ns,fun i y v h1 h2 h3=>?_⟩,fun y c e=>?_,I.hok.fresh (Nat.le_refl _),fun y c e=>I.freeC y c (B.sub y c e),fun p hp=>absurd (show p∈([]:List (Addr×Obj)) from hp) (by simp),I.hok.kept keep,by simp [bst]⟩
 ·cases i with
  | zero=>simp [bst] at h2
  | succ j=>
   obtain⟨p,hp,rfl,hv⟩:=bst_get h1 h2
   obtain⟨_,hN,hk,hk2,c,hc⟩:=B.fvs p hp
   obtain⟨m0,_,hl⟩:=I.loc
   have vis:Vis X.env.scope p.2:=hk.elim (fun z=>.inr (.inl z)) fun z=>.inr (.inr z)
   obtain⟨u,r,l⟩:=hl p.1 p.2 v hN hv vis
   refine⟨u,r,.inr ⟨hk2,c,hc,?_⟩⟩
   rcases l with ⟨z,_⟩ | ⟨_,c',hc',o,ho,hd⟩
   ·have z':X.env.scope.names.lookup p.2=some .local:=z
    rcases hk with k | k <;> (rw [k] at z';cases z')
   ·have:=B.sub p.2 c hc
    rw [hc'] at this;cases this
    exact⟨o,keep _ o ho,hd⟩
 ·obtain⟨v,o,ho,hd⟩:=I.cell y c (B.sub y c e)
  exact⟨v,o,keep c o ho,hd⟩
theorem blk_store {pins':List (Addr×Obj)} {σ:St} {H H0:Hp} {s s5:Shared} {fp:List Addr} {C:Addr} {o:Option V} {v:V} {u:Value} {E:Value->Shared->Prop} {Q:Unit->Shared->Prop} (B:BlkOk X x fv scope cl)
  (I:Inv (blk X x fv scope cl C s H0 fp) pins' (bst fv σ o) H s5) (r:RelV v u) (h:∀s6,Inv (blk X x fv scope cl C s H0 fp) pins' (bst fv σ (some v)) H s6->Q () s6):
  wpAny (model X.prog X.w) X.A (assign (.Name x px) (compEnvC scope cl C X.env) u) Q E s5:=by
 obtain⟨m,hn,hl⟩:=id I.loc
 have hk:(relabel scope X.env).names.lookup x=some .local:=lookup_relabel_local B.here
 have hcls:((compEnvC scope cl C X.env).scope.kind == .class || ((compEnvC scope cl C X.env).scope.kind == .module && (compEnvC scope cl C X.env).locals != (compEnvC scope cl C X.env).globals))=false:=by
  have:(compEnvC scope cl C X.env).scope.kind=.function:=B.kind
  rw [this];rfl
 refine wpAny_assign_Name (wpAny_storeName_local hk hn (fun h' hn' hs=>?_) hcls)
 have cne:=I.cne
 obtain⟨oL,_,_,hoL,_⟩:=id hn
 have tracked:HOk X.prog X.w H h':=fun b ob e=>by
  refine (I.hok b ob e).stay (fun c w' hc q=>(hs.2 c ?_).trans q) (fun _ q=>q) fun _ _ q=>q
  intro z
  have z':c=C:=z
  have fr:H C=none:=I.free
  rcases hc with hc | hc
  ·rw [← hc,z',fr] at e;cases e
  ·rw [z',fr] at hc;cases hc
 refine h _ ⟨I.ok,I.os,I.bare,⟨fun b o e n hb hx=>?_,fun b o e n hb hx=>?_,I.base.free,fun b o e hx=>?_,I.base.tups,I.base.frzs,I.base.tbls⟩,⟨_,hn',fun j y v' e1 e2 e3=>?_⟩,fun y c e=>?_,I.free,I.freeC,fun p hp=>?_,tracked,by simp [bst]⟩
 ·exact (hs.2 b (Nat.ne_of_lt (Nat.lt_of_lt_of_le (Heap.lt_size e) I.ok.above))).trans (I.base.keep b o e n hb hx)
 ·obtain⟨sl,e1⟩:=I.base.slot b o e n hb hx
  exact⟨sl,(hs.2 b (Nat.ne_of_lt (Nat.lt_of_lt_of_le (Heap.lt_size e) I.ok.above))).trans e1⟩
 ·obtain⟨o',e1⟩:=I.base.there b o e hx
  exact⟨o',(hs.2 b (Nat.ne_of_lt (Nat.lt_of_lt_of_le (Heap.lt_size e) I.ok.above))).trans e1⟩
 ·cases j with
  | zero=>
   have e1':x=y:=by simpa using e1
   subst e1'
   have e2':v=v':=by simpa [bst] using e2
   subst e2'
   exact⟨u,r,.inl ⟨hk,by simp⟩⟩
  | succ j=>
   have e2':(bst fv σ o)[j+1]?=some (some v'):=by simpa [bst] using e2
   obtain⟨u',r',q⟩:=hl (j+1) y v' e1 e2' e3
   refine⟨u',r',?_⟩
   obtain⟨p,hp,rfl,_⟩:=bst_get e1 e2
   rcases q with ⟨k,e⟩ | ⟨k,c,e,z⟩
   ·exact .inl ⟨k,by simp [(B.fvs p hp).1,e]⟩
   ·exact .inr ⟨k,c,e,z.sameBut hs (cne _ c e)⟩
 ·obtain⟨w',z⟩:=I.cell y c e
  exact⟨w',z.sameBut hs (cne y c e)⟩
 ·obtain⟨e,n,ne,nf,d⟩:=I.pin p hp
  exact⟨(hs.2 p.1 ne).trans e,n,ne,nf,d⟩
theorem blk_back {X:Cx} {pins:List (Addr×Obj)} {σ:St} {H H5:Hp} {s2 s3 s6:Shared} {fp:List Addr} (I:Inv X pins σ H s2) (hk:HOk X.prog X.w H5 s6.heap) (bare:AllBare s6.gens) (hD:H s2.heap.objs.size=none) (up3:∀b o,s2.heap.get? b=some o->s3.heap.get? b=some o) (ub:Un (frs X.stack) fp (upd H s2.heap.objs.size (.lst [])) H5 s3.heap s6.heap) (os:s6.os=s2.os) (hf:∀b∈fp,FpOk X pins H b):Inv X pins σ H5 s6:=by
 refine I.call' ?_ ((Un.laid up3 (Nat.le_refl _) hD).trans ub) hk bare fun b hb=>?_
 ·exact os
 ·obtain⟨_,f1,f2,f3,f4,f5⟩:=hf b hb
  exact⟨f3,f1,f4,f5⟩
theorem blk_tail {Y:Cx} {prog:Program} {w:World} {K:W.Frag} {tg:Expr} {J:It} {fp:List Addr} {it:Addr} {tn:Nat->Heap->Prop} (T:Turn prog w K tg J fp it tn) {σ':St} {H9:Hp} {s7 s9:Shared} {D:Addr} {ys:List V} {yv:V} {y:Value} {i n:Nat} {N:Hp->Prop} {W:Nat->Nat->Hp->Prop} {E':Value->Shared->Prop} (hx:∀u s,¬Y.xe u s) (st7:tn (i+1) s7.heap) (I9:Inv Y ([]++pinsAt fp s7.heap) σ' H9 s9) (r9:RelV yv y) (hD9:H9 D=some (.lst ys)) (hz:ys.length < sizeLine) (n9:N (upd H9 D (.lst (ys++[yv])))) (hN:∀H',N H'->∃m',m' < n∧W (i+1) m' H'):
  wpAny (model Y.prog Y.w) Y.A (call (.builtin "list.append") [.ref D,y]) (fun _ s₅=>∃m,m < n∧∃H',Inv Y [] σ' H' s₅∧tn (i+1) s₅.heap∧(∀b∈fp,H' b=none)∧W (i+1) m H') E' s9:=by
 have a9:=mt_append (X:=Y) _ s9 _ H9 (.ref D) [yv] (.ref D) [y] (fun _ H10=>H10=upd H9 D (.lst (ys++[yv]))) I9 rfl (.cons r9 .nil)
  ⟨_,ys,yv,rfl,rfl,hD9,hz,rfl⟩
 refine wpAny_mono a9 (fun _ s10 zz=>?_) fun _ _ z=>(hx _ _ z).elim
 obtain⟨_,H10,I10,_,e10⟩:=zz
 subst e10
 obtain⟨m',hm,w9⟩:=hN _ n9
 refine⟨m',hm,_,I10.unpinned,T.keep _ _ _ st7 fun b hb o e=>(I10.pin (b,o) (List.mem_append_right _ (List.mem_append_right _ (mem_pinsAt hb e)))).1,fun b hb=>?_,w9⟩
 obtain⟨o,e,_⟩:=T.obj _ _ st7 b hb
 exact (I10.pin (b,o) (List.mem_append_right _ (List.mem_append_right _ (mem_pinsAt hb e)))).2.1
theorem blk_run {pins:List (Addr×Obj)} {σ:St} {H:Hp} {s2:Shared} {it:Addr} {fp:List Addr} {tn:Nat->Heap->Prop} {J:It} {Q:VK} {E:Value->Shared->Prop} {RR:Value->Addr->Result->Shared->Prop}
  (hc:X.calm=true) (B:BlkOk X x fv scope cl) (he:∀C s H fp,PE (blk X x fv scope cl C s H fp) elt te) (I:Inv X pins σ H s2) (T:Turn X.prog X.w X.K (.Name x px) J fp it tn) (st:tn 0 s2.heap) (hf:∀b∈fp,FpOk X pins H b)
  (rd:∀D,H D=none->∃W:Nat->Nat->Hp->Prop,(∃m,W 0 m (upd H D (.lst [])))∧∀i m H,W i m H->
   (J.stop i H∧Q (.ref D) H)∨(J.go i H∧∃N:Hp->Prop,(∀H',N H'->∃m',m' < m∧W (i+1) m' H')∧∀v H',J.yld i H v H'->te (bst fv σ (some v)) H' fun y H2=>∃ys,H2 D=some (.lst ys)∧ys.length < sizeLine∧N (upd H2 D (.lst (ys++[y])))))
  (hRR:∀D C s' H' m',Inv X pins σ H' s'->FpOk X pins H' C->s'.heap.Ns C m'->Q (.ref D) H'->RR (.ref D) C (.ok .next) s'):
  wpAny (model X.prog X.w) X.A (newList []) (fun acc s₃=>wpAny (model X.prog X.w) X.A (newFunctionEnv scope X.env.globals cl [] X.env.qual none .none (some X.env)) (fun cenv s₄=>
   codeAny (model X.prog X.w) X.A (.compStart (.ListComp elt [⟨.Name x px,iter,[],0⟩] scope pos) 0 (.ref it) acc { cenv with scope:=relabel scope X.env }) (RR acc cenv.locals) s₄) E s₃) E s2:=by
 refine wpAny_newObj_type ?_ (by show 0<=sizeLine;exact Nat.zero_le _)
 have hD:H s2.heap.objs.size=none:=I.hok.fresh (Nat.le_refl _)
 have I3:=I.lnew (ys:=[]) (its:=[]) (t':=s2.toks) .nil (Nat.zero_le _)
 generalize hs3:({ s2 with heap:=s2.heap.push { cls:=.type "list",data:=.seq ([]:List Value).toArray },toks:=s2.toks }:Shared)=s3 at I3
 have sz3:s3.heap.objs.size=s2.heap.objs.size+1:=by rw [← hs3];exact Heap.size_push ..
 have up3:∀b o,s2.heap.get? b=some o->s3.heap.get? b=some o:=fun b o e=>by rw [← hs3];exact Heap.get?_push_of_some _ e
 have hf3:∀b∈fp,FpOk X pins (upd H s2.heap.objs.size (.lst [])) b:=fun b hb=>by
  obtain⟨f0,r⟩:=hf b hb
  refine⟨?_,r⟩
  obtain⟨o,e,_⟩:=T.obj 0 _ st b hb
  rw [upd_ne (Nat.ne_of_lt (Heap.lt_size e))];exact f0
 have ltf:∀b∈fp,b < s2.heap.objs.size:=fun b hb=>by
  obtain⟨o,e,_⟩:=T.obj 0 _ st b hb
  exact Heap.lt_size e
 have st3:tn 0 s3.heap:=T.keep 0 _ _ st fun b _ o e=>up3 b o e
 obtain⟨W,⟨m0,w0⟩,turn⟩:=rd _ hD
 refine wpAny_newFunctionEnv B.nocell (by intro y hy;simp at hy) (fun h₁ hns₁ hsb₁=>?_) B.kind
 have hfC:∀b∈fp,b≠s3.heap.objs.size:=fun b hb=>Nat.ne_of_lt (by rw [sz3];exact Nat.lt_succ_of_lt (ltf b hb))
 have up4:∀b o,s3.heap.get? b=some o->h₁.get? b=some o:=fun b o e=>hsb₁.extBut b o (Nat.ne_of_lt (Heap.lt_size e)) (Heap.get?_push_of_some _ e)
 generalize hs4:({ s3 with heap:=h₁,toks:=s3.toks+([]:List (Str×Value)).length }:Shared)=s4
 have h4:s4.heap=h₁:=by rw [← hs4]
 have I4:Inv (blk X x fv scope cl s3.heap.objs.size s3 (upd H s2.heap.objs.size (.lst [])) fp) [] (bst fv σ none) (upd H s2.heap.objs.size (.lst [])) s4:=
  blk_start B I3 hf3 rfl hfC (by rw [← hs4]) (by rw [← hs4]) (fun b o e=>by rw [h4];exact up4 b o e) (by rw [h4];exact hns₁)
 have st4:tn 0 s4.heap:=by rw [h4];exact T.keep 0 _ _ st3 fun b _ o e=>up4 b o e
 have stat:∀{H':Hp},(∀b∈fp,H' b=none)->∀b∈fp,FpOk (blk X x fv scope cl s3.heap.objs.size s3 (upd H s2.heap.objs.size (.lst [])) fp) [] H' b:=fun {H'} hn b hb=>by
  obtain⟨_,f1,f2,f3,f4,f5⟩:=hf b hb
  refine⟨hn b hb,hfC b hb,fun z=>?_,.inl hb,fun y c e=>f4 y c (B.sub y c e),fun p hp=>absurd (show p∈([]:List (Addr×Obj)) from hp) (by simp)⟩
  rcases List.mem_cons.mp (I.stkSub b z) with q | q
  ·exact f1 q
  ·exact f2 q
 have loop:codeAny (model X.prog X.w) X.A (.compLoop (.ListComp elt [⟨.Name x px,iter,[],0⟩] scope pos) 0 (.ref it) (.ref s2.heap.objs.size) (compEnvC scope cl s3.heap.objs.size X.env)) (RR (.ref s2.heap.objs.size) s3.heap.objs.size) s4:=by
  refine compLoop_one (fun n s'=>∃i H' o,Inv (blk X x fv scope cl s3.heap.objs.size s3 (upd H s2.heap.objs.size (.lst [])) fp) [] (bst fv σ o) H' s'∧tn i s'.heap∧(∀b∈fp,H' b=none)∧W i n H') ?_ m0
   ⟨0,_,none,I4,st4,fun b hb=>(hf3 b hb).1,w0⟩
  rintro n s5 E' ⟨i,H5,o5,I5,st5,fr5,w5⟩
  rcases turn i n H5 w5 with ⟨stop,q⟩ | ⟨go,N,hN,step⟩
  ·refine thn (T.done (blk X x fv scope cl s3.heap.objs.size s3 (upd H s2.heap.objs.size (.lst [])) fp) rfl rfl rfl hc i [] s5 _ H5 _ I5 (stat fr5) st5 stop) fun r s6 ⟨hr,I6⟩=>?_
   subst hr
   obtain⟨m6,hn6,_⟩:=I6.loc
   have J6:Inv X pins σ H5 s6:=blk_back I I6.hok I6.bare hD up3 I6.base (I6.os.trans (by rw [← hs3])) hf
   refine hRR _ _ s6 H5 m6 J6 ?_ hn6 q
   exact I3.fpOk (Nat.le_refl _) I6.free
  ·refine thn (T.item (blk X x fv scope cl s3.heap.objs.size s3 (upd H s2.heap.objs.size (.lst [])) fp) rfl rfl rfl hc i [] s5 _ H5 _ I5 (stat fr5) st5 go) fun r s6 ⟨u,hr,h6⟩=>?_
   subst hr
   refine thn h6 fun _ s7 ⟨v,H7,I7,r7,y7,st7,fr7⟩=>?_
   have I7':=I7.pinned (stat fr7) (T.obj _ _ st7)
   refine blk_store B I7' r7 fun s8 I8=>?_
   have e8:=he _ _ _ _ _ s8 _ H7 _ I8 (step v H7 y7)
   refine wpAny_mono e8 (fun y s9 ⟨yv,H9,I9,r9,ys,hD9,hz,n9⟩=>?_) fun _ _ z=>False.elim z
   have a9:=blk_tail (E':=E') T (fun _ _ z=>z) st7 I9 r9 hD9 hz n9 hN
   refine wpAny_mono a9 (fun _ s10 zz=>?_) fun _ _ z=>z
   obtain⟨m',hm,H10,I10,t10,f10,w9⟩:=zz
   exact⟨m',hm,i+1,H10,_,I10,t10,f10,w9⟩
 exact codeAny_compStart_list loop (T.self _ 0 _ _ _ st4 loop)
end
section
variable {X:Cx} {elt iter:Expr} {x:Str} {px:Pos} {fv:List (Nat×Str)} {scope:Scope} {cl:List (Str×Addr)} {pos:Pos} {te:TE} {wi:TI}
theorem pe_lcomp (hc:X.calm=true) (B:BlkOk X x fv scope cl) (hi:PI X (.Name x px) iter wi) (he:∀C s H fp,PE (blk X x fv scope cl C s H fp) elt te)
  (hs:∀v,foldedSetIterable iter X.env v=pure v:=by intro _;rfl):PE X (.ListComp elt [⟨.Name x px,iter,[],0⟩] scope pos) (tComp fv wi te):=by
 intro pins s σ H Q I h
 rw [eval_ListComp]
 refine wpAny_comprehension_free (use:=none) rfl hs B.clos B.kind B.names (thn (hi pins s σ H _ I h) fun v s1 h1=>thn h1 fun itv s2 h2=>?_)
 obtain⟨it,fp,tn,J,H2,e,I2,T,st2,f2,rd⟩:=h2
 subst e
 refine blk_run (RR:=fun acc C=>compPost (model X.prog X.w) X.A X.xe none (EP X pins σ Q) acc C) hc B he I2 T st2 f2 rd ?_
 intro D C s' H' m' I' fC hn q
 exact⟨m',hn,fun h' sb=>⟨.ref D,H',I'.turned (t':=s'.toks) (fun b o hb e=>(sb.2 b hb).trans e) fC.1 fC.2.1 fC.2.2.2.1 fC.2.2.2.2.1 fC.2.2.2.2.2,rfl,q⟩⟩
theorem ps_setC {i:Nat} {y:Str} {py spos:Pos} (hc:X.calm=true) (B:BlkOk X x fv scope cl) (hi:PI X (.Name x px) iter wi) (he:∀C s H fp,PE (blk X x fv scope cl C s H fp) elt te)
  (hN:X.N.Nodup) (hiy:X.N[i]?=some y) (hy:X.env.scope.names.lookup y=some .local)
  (hsw:swapsWith (.ListComp elt [⟨.Name x px,iter,[],0⟩] scope pos) (some (.Name y py)) spos.line X.env=pure true:=by rfl)
  (hs:∀v,foldedSetIterable iter X.env v=pure v:=by intro _;rfl):
  PS X (.Assign [.Name y py] (.ListComp elt [⟨.Name x px,iter,[],0⟩] scope pos) spos) (tAsg (tComp fv wi te) (gName i)):=by
 intro pins s σ H D I h
 rw [exec_Assign_Name_used _ _ _ _ hsw]
 refine wpAny_bind (wpAny_standAt (wpAny_bind ?_))
 show wpAny _ X.A (do let _ ← comprehension (.ListComp elt [⟨.Name x px,iter,[],0⟩] scope pos) scope X.env _ (newList []) false (eval iter X.env) (some (assign (.Name y py) X.env))) _ _ s
 refine wpAny_bind (wpAny_mono (wpAny_comprehension_free (use:=some (assign (.Name y py) X.env)) (Q:=fun _ s'=>SP X pins D .next s') rfl hs B.clos B.kind B.names
  (thn (hi pins s σ H _ I h) fun v s1 h1=>thn h1 fun itv s2 h2=>?_)) (fun _ s' hq=>wpAny_pure (wpAny_pure hq)) fun _ _ e=>e)
 obtain⟨it,fp,tn,J,H2,e,I2,T,st2,f2,rd⟩:=h2
 subst e
 refine blk_run (Q:=fun x H1=>gName i x σ H1 D.nx) (RR:=fun acc C=>compPost (model X.prog X.w) X.A X.xe (some (assign (.Name y py) X.env)) (fun _ s'=>SP X pins D .next s') acc C) hc B he I2 T st2 f2 rd ?_
 intro Dl C s' H' m' I' fC hn q
 show wpAny _ X.A (assign (.Name y py) X.env (.ref Dl)) _ _ _
 refine wpAny_assign_Name (store_ok2 I' hN hiy (.inl hy) (v:=.ref Dl) rfl (fun s'' I'' hab=>?_) (.inr hy))
 obtain⟨a,sb,ha⟩:=hab
 have hCa:C≠a:=by
  rcases ha with rfl | e
  ·exact fC.2.1
  ·exact Ne.symm (fC.2.2.2.2.1 _ _ e)
 exact⟨m',hn.sameBut sb hCa,fun h' sb'=>⟨_,H',I''.turned (t':=s''.toks) (fun b o hb e=>(sb'.2 b hb).trans e) fC.1 fC.2.1 fC.2.2.2.1 fC.2.2.2.2.1 fC.2.2.2.2.2,q⟩⟩
end
def Itrs (lo c:Int) (n:Nat):It:=⟨fun i _=>i < n,fun i H x H'=>H'=H∧x=.int (lo+i * c),fun i _=>n<=i⟩
section
variable {X:Cx} {tg:Expr}
def iRng3 (ta:TA):TI:=fun σ H R=>ta σ H fun vs H1=>∃(i j k:Int) (n:Nat),vs=[.int i,.int j,.int k]∧k≠0∧k.natAbs < 1073741824∧Builtin.Range.small i j k=true∧Builtin.Range.rangeSize i j k=n∧R (Itrs i k n) H1
end
theorem comp_list {K:W.Frag} {a:Addr} {xs:List V} {fv:List (Nat×Str)} {te:TE} {Q:VK} {σ:St} {H1:Hp} {D:Addr} (Pv:Nat->Hp->Prop) (h0:Pv 0 (upd H1 D (.lst []))) (hl:∀i H,i<=xs.length->Pv i H->SqL K H a xs)
  (hs:∀i v H,xs[i]?=some v->Pv i H->te (bst fv σ (some v)) H fun y H2=>∃ys,H2 D=some (.lst ys)∧ys.length < sizeLine∧Pv (i+1) (upd H2 D (.lst (ys++[y])))) (hd:∀H,Pv xs.length H->Q (.ref D) H):
  ∃W:Nat->Nat->Hp->Prop,(∃m,W 0 m (upd H1 D (.lst [])))∧∀i m H,W i m H->
   ((Itl K a).stop i H∧Q (.ref D) H)∨((Itl K a).go i H∧∃N:Hp->Prop,(∀H',N H'->∃m',m' < m∧W (i+1) m' H')∧∀v H',(Itl K a).yld i H v H'->te (bst fv σ (some v)) H' fun y H2=>∃ys,H2 D=some (.lst ys)∧ys.length < sizeLine∧N (upd H2 D (.lst (ys++[y])))):=by
 refine⟨fun i m H=>m=xs.length - i∧i<=xs.length∧Pv i H,⟨xs.length,by simp,Nat.zero_le _,h0⟩,?_⟩
 rintro i m H ⟨rfl,hi,p⟩
 have q:=hl i H hi p
 by_cases hlt:i < xs.length
 ·refine .inr ⟨⟨xs,xs[i],q,List.getElem?_eq_getElem hlt⟩,Pv (i+1),fun H' p'=>⟨xs.length - (i+1),by omega,rfl,hlt,p'⟩,fun v H' y=>?_⟩
  obtain⟨e,y⟩:=y
  subst e
  exact hs i v _ (y xs q) p
 ·have e:i=xs.length:=by omega
  subst e
  exact .inl ⟨⟨xs,q,Nat.le_refl _⟩,hd H p⟩
theorem comp_range {lo:Int} {n:Nat} {fv:List (Nat×Str)} {te:TE} {Q:VK} {σ:St} {H1:Hp} {D:Addr} (Pv:Nat->Hp->Prop) (h0:Pv 0 (upd H1 D (.lst [])))
  (hs:∀i H,i < n->Pv i H->te (bst fv σ (some (.int (lo+i)))) H fun y H2=>∃ys,H2 D=some (.lst ys)∧ys.length < sizeLine∧Pv (i+1) (upd H2 D (.lst (ys++[y])))) (hd:∀H,Pv n H->Q (.ref D) H):
  ∃W:Nat->Nat->Hp->Prop,(∃m,W 0 m (upd H1 D (.lst [])))∧∀i m H,W i m H->
   ((Itr lo n).stop i H∧Q (.ref D) H)∨((Itr lo n).go i H∧∃N:Hp->Prop,(∀H',N H'->∃m',m' < m∧W (i+1) m' H')∧∀v H',(Itr lo n).yld i H v H'->te (bst fv σ (some v)) H' fun y H2=>∃ys,H2 D=some (.lst ys)∧ys.length < sizeLine∧N (upd H2 D (.lst (ys++[y])))):=by
 refine⟨fun i m H=>m=n - i∧i<=n∧Pv i H,⟨n,by simp,Nat.zero_le _,h0⟩,?_⟩
 rintro i m H ⟨rfl,hi,p⟩
 by_cases hlt:i < n
 ·refine .inr ⟨hlt,Pv (i+1),fun H' p'=>⟨n - (i+1),by omega,rfl,hlt,p'⟩,fun v H' y=>?_⟩
  obtain⟨e,y⟩:=y
  subst e y
  exact hs i _ hlt p
 ·have e:i=n:=by omega
  subst e
  exact .inl ⟨Nat.le_refl _,hd H p⟩
theorem sub_nil {cells:List (Str×Addr)}:∀y c,([]:List (Str×Addr)).lookup y=some c->cells.lookup y=some c:=fun _ _ h=>nomatch h
theorem sub_cons {n:Str} {c0:Addr} {r cells:List (Str×Addr)} (h0:cells.lookup n=some c0) (h:∀y c,r.lookup y=some c->cells.lookup y=some c):∀y c,((n,c0) :: r).lookup y=some c->cells.lookup y=some c:=fun y c q=>by
 rw [List.lookup_cons] at q
 cases e:y == n with
 | true=>
  rw [e] at q
  cases q
  rw [eq_of_beq e];exact h0
 | false=>
  rw [e] at q
  exact h y c q
theorem has_of {l:List (Str×NameKind)} {cl:List (Str×Addr)} (h:(l.all fun p=>(p.2 != .cell && p.2 != .free) || (cl.lookup p.1).isSome)=true):∀y,(l.lookup y=some .cell∨l.lookup y=some .free)->∃c,cl.lookup y=some c:=fun y hy=>by
 have key:∀k,l.lookup y=some k->(k=.cell∨k=.free)->∃c,cl.lookup y=some c:=fun k e hk=>by
  have q:=List.all_eq_true.mp h (y,k) (PySem.mem_of_lookup e)
  have z:(k != .cell && k != .free)=false:=by rcases hk with rfl | rfl <;> rfl
  rw [show ((y,k).2 != .cell && (y,k).2 != .free)=false from z,Bool.false_or] at q
  exact Option.isSome_iff_exists.mp q
 rcases hy with e | e
 ·exact key _ e (.inl rfl)
 ·exact key _ e (.inr rfl)
def FvOk (X:Cx) (x:Str) (scope:Scope) (cl:List (Str×Addr)) (fv:List (Nat×Str)):Prop:=
 ∀p∈fv,p.2≠x∧X.N[p.1]?=some p.2∧(X.env.scope.names.lookup p.2=some .cell∨X.env.scope.names.lookup p.2=some .free)∧
  ((relabel scope X.env).names.lookup p.2=some .cell∨(relabel scope X.env).names.lookup p.2=some .free)∧∃c,cl.lookup p.2=some c
theorem fv_nil {X:Cx} {x:Str} {scope:Scope} {cl:List (Str×Addr)}:FvOk X x scope cl []:=fun _ h=>nomatch h
theorem fv_cons {X:Cx} {x:Str} {scope:Scope} {cl:List (Str×Addr)} {fv:List (Nat×Str)} (i:Nat) (y:Str) (h1:y≠x) (h2:X.N[i]?=some y) (h3:X.env.scope.names.lookup y=some .cell∨X.env.scope.names.lookup y=some .free)
  (h4:(relabel scope X.env).names.lookup y=some .cell∨(relabel scope X.env).names.lookup y=some .free) (h5:∃c,cl.lookup y=some c) (r:FvOk X x scope cl fv):FvOk X x scope cl ((i,y) :: fv):=fun p hp=>by
 rcases List.mem_cons.mp hp with rfl | hp
 ·exact⟨h1,h2,h3,h4,h5⟩
 ·exact r p hp
theorem blkok {X:Cx} {x:Str} {fv:List (Nat×Str)} {scope:Scope} {cl:List (Str×Addr)} (clos:closureFor scope X.env=pure cl) (sub:∀y c,cl.lookup y=some c->X.env.cells.lookup y=some c) (fvs:FvOk X x scope cl fv)
  (kind:scope.kind=.function:=by rfl) (here:scope.names.lookup x=some .local:=by rfl) (nocell:∀y∈scope.names,y.2≠.cell:=by decide +kernel)
  (names:∀y∈scope.names,y.2=.local->scope.names.lookup y.1=some .local:=by decide +kernel)
  (has:((relabel scope X.env).names.all fun p=>(p.2 != .cell && p.2 != .free) || (cl.lookup p.1).isSome)=true:=by rfl):BlkOk X x fv scope cl:=
 ⟨clos,nocell,kind,names,here,sub,has_of has,fvs⟩
section
variable {X:Cx}
theorem call_isinst:CallR X (.builtin "isinstance") (fun xs H Q=>∃x n t b,xs=[x,.ty n]∧TyOf X.K H x t∧PySem.W.kitOne X.K t (.type n)=some b∧Q (.bl b) H):=by
 intro pins s σ H xs us Q I rv h
 obtain⟨x,n,t,b,rfl,ty,e,q⟩:=h
 cases rv with
 | cons r rr=>
  cases rr with
  | cons r' rr=>
   cases rr
   cases r'
   exact isinst_ok I r ty e fun tk=>⟨.bl b,H,I.tok _,rfl,q⟩
theorem mt_bitlen:MtR X "int.bit_length" (fun x xs H Q=>∃i,x=.int i∧xs=[]∧Q (.int (Builtin.Int.intBits i:Nat)) H):=by
 intro pins s σ H x xs v us Q I rx rv h
 obtain⟨i,rfl,rfl,q⟩:=h
 cases rv
 obtain⟨t,rfl⟩:=rx
 exact call_gives F.slot_int_bit_length (typeIs_int s i t) F.entry_int_bit_length (F.args_int_bit_length_1 _) (PySem.AutoIntG2.int_bit_length_int_0 i t) ⟨.int _,H,I.tok _,⟨_,rfl⟩,q⟩
end
theorem intBits_le_of {i:Int} {k:Nat} (h:i.natAbs < 2 ^ k):Builtin.Int.intBits i<=k:=by
 unfold Builtin.Int.intBits
 split
 ·exact Nat.zero_le _
 ·rename_i hz
  have hz':i≠0:=by simpa using hz
  have:i.natAbs.log2 < k:=(Nat.log2_lt (by omega)).mpr h
  omega
theorem mulOk_of {i j:Int} {k l:Nat} (h1:i.natAbs < 2 ^ k) (h2:j.natAbs < 2 ^ l) (h:k+l<=134217728):IntMulOk i j:=IntMulOk.of_le (intBits_le_of h1) (intBits_le_of h2) h
theorem op_fdivB {X:Cx}:OpR X (binaryOp .FloorDiv) (rI (fun _ j=>j≠0∧j.natAbs < 2 ^ 9000) fun i j=>.int (i.fdiv j)):=
 opI fun _ j _ _ _ _ _ hc q=>floordiv_int hc.1 q (.inl (PyProof.noPylong_of_log2 ((Nat.log2_lt (by have:=hc.1;omega)).mpr hc.2)))
section
variable {σ:St} {H:Hp} {Q:VK} {D:Ends} {t u:TS} {te ta tb tc to ti:TE} {tt:TT} {tA:TA} {i:Nat} {x y v:V} {r r':R2} {QT:Bool->Hp->Prop} {QA:List V->Hp->Prop}
theorem a_seq:tSeq t u D σ H=t { D with nx:=u D } σ H:=rfl
theorem a_next:tNext D σ H=D.nx σ H:=rfl
theorem a_brk:tBreak D σ H=D.bk σ H:=rfl
theorem a_cnt:tCont D σ H=D.ct σ H:=rfl
theorem a_drop:tDrop te D σ H=te σ H fun _ H1=>D.nx σ H1:=rfl
theorem a_ret:tRet te D σ H=te σ H D.rt:=rfl
theorem a_retN:tRetN D σ H=D.rt .non H:=rfl
theorem a_if:tIfS tt t u D σ H=tt σ H fun b H1=>if b=true then t D σ H1 else u D σ H1:=rfl
theorem a_asg {g:TG}:tAsg te g D σ H=te σ H fun x H1=>g x σ H1 D.nx:=rfl
theorem a_gname {Q:St->Hp->Prop}:gName i v σ H Q=Q (σ.set i (some v)) H:=rfl
theorem a_gsub {ts:TSet} {Q:St->Hp->Prop}:gSub to ti ts v σ H Q=to σ H fun o H1=>ti σ H1 fun i H2=>ts o i v H2 fun H3=>Q σ H3:=rfl
theorem a_gtup {K:W.Frag} {n:Nat} {ts:TGs} {Q:St->Hp->Prop}:gTup K n ts v σ H Q=∃a xs,v=.ref a∧SqT K H a xs∧xs.length=n∧ts xs σ H Q:=rfl
theorem a_gnil {vs:List V} {Q:St->Hp->Prop}:gNil vs σ H Q=(vs=[]∧Q σ H):=rfl
theorem a_gcons {g:TG} {gs:TGs} {vs:List V} {Q:St->Hp->Prop}:gCons g gs vs σ H Q=∃v r,vs=v :: r∧g v σ H fun σ' H'=>gs r σ' H' Q:=rfl
theorem a_aug {ip:TIp}:tAug i te ip D σ H=∃x,σ[i]?=some (some x)∧te σ H fun y H1=>ip x y H1 fun z H2=>D.nx (σ.set i (some z)) H2:=rfl
theorem a_augS {tget:V->V->Hp->VK->Prop} {tip:TIp} {tset:TSet}:tAugS to ti te tget tip tset D σ H=to σ H fun o H1=>ti σ H1 fun i H2=>tget o i H2 fun x H3=>te σ H3 fun y H4=>tip x y H4 fun z H5=>tset o i z H5 fun H6=>D.nx σ H6:=rfl
theorem a_ipI {f:Int->Int->Int}:ipI f x y H Q=∃i j,x=.int i∧y=.int j∧Q (.int (f i j)) H:=rfl
theorem a_var:tVar i σ H Q=∃v,σ[i]?=some (some v)∧Q v H:=rfl
theorem a_c:tC v σ H Q=Q v H:=rfl
theorem a_op:tOp r ta tb σ H Q=ta σ H fun x H1=>tb σ H1 fun y H2=>r x y H2 Q:=rfl
theorem a_un {r:V->Hp->VK->Prop}:tUn r ta σ H Q=ta σ H fun x H1=>r x H1 Q:=rfl
theorem a_rI {C:Int->Int->Prop} {g:Int->Int->V}:rI C g x y H Q=∃i j,x=.int i∧y=.int j∧C i j∧Q (g i j) H:=rfl
theorem a_rI0 {g:Int->Int->V}:rI0 g x y H Q=∃i j,x=.int i∧y=.int j∧Q (g i j) H:=rfl
theorem a_rU {g:Int->V}:rU g x H Q=∃i,x=.int i∧Q (g i) H:=rfl
theorem a_eqI {i j:Int}:rEq (.int i) (.int j) H Q=Q (.bl (decide (i=j))) H:=by
 show (true=true∧Q (.bl (decide (V.int i=V.int j))) H)=_
 rw [show decide (V.int i=V.int j)=decide (i=j) by rw [dec_int];exact Bool.beq_eq_decide_eq i j]
 simp
theorem a_neI {i j:Int}:rNe (.int i) (.int j) H Q=Q (.bl (!decide (i=j))) H:=by
 show (true=true∧Q (.bl (!decide (V.int i=V.int j))) H)=_
 rw [show decide (V.int i=V.int j)=decide (i=j) by rw [dec_int];exact Bool.beq_eq_decide_eq i j]
 simp
theorem a_eqB {i j:Bool}:rEq (.bl i) (.bl j) H Q=Q (.bl (decide (i=j))) H:=by
 show (true=true∧Q (.bl (decide (V.bl i=V.bl j))) H)=_
 cases i <;> cases j <;> simp
theorem a_neB {i j:Bool}:rNe (.bl i) (.bl j) H Q=Q (.bl (!decide (i=j))) H:=by
 show (true=true∧Q (.bl (!decide (V.bl i=V.bl j))) H)=_
 cases i <;> cases j <;> simp
theorem a_tB:tB te σ H QT=te σ H fun x H1=>∃c,x=.bl c∧QT c H1:=rfl
theorem a_test:tTest te σ H QT=te σ H fun x H'=>∃k,x=.bl k∧QT k H':=rfl
theorem a_and {tt':TT}:tAnd tt tt' σ H QT=tt σ H fun c H1=>if c=true then tt' σ H1 QT else QT false H1:=rfl
theorem a_or {tt':TT}:tOr tt tt' σ H QT=tt σ H fun c H1=>if c=true then QT true H1 else tt' σ H1 QT:=rfl
theorem a_not:tNot tt σ H QT=tt σ H fun c H1=>QT (!c) H1:=rfl
theorem a_andV:tAndV ta tb σ H Q=ta σ H fun x H1=>∃c,x=.bl c∧if c=true then tb σ H1 Q else Q (.bl false) H1:=rfl
theorem a_orV:tOrV ta tb σ H Q=ta σ H fun x H1=>∃c,x=.bl c∧if c=true then Q (.bl true) H1 else tb σ H1 Q:=rfl
theorem a_notV:tNotV ta σ H Q=ta σ H fun x H1=>∃c,x=.bl c∧Q (.bl (!c)) H1:=rfl
theorem a_ifE:tIf tt ta tb σ H Q=tt σ H fun c H1=>if c=true then ta σ H1 Q else tb σ H1 Q:=rfl
theorem a_chain:tChain r r' ta tb tc σ H Q=ta σ H fun x H1=>tb σ H1 fun y H2=>r x y H2 fun z H3=>∃k,z=.bl k∧(if k=true then tc σ H3 fun w' H4=>r' y w' H4 Q else Q (.bl false) H3):=rfl
theorem a_nil:tNil σ H QA=QA [] H:=rfl
theorem a_cons:tCons ta tA σ H QA=ta σ H fun x H1=>tA σ H1 fun xs H2=>QA (x :: xs) H2:=rfl
theorem a_lst:tLst tA σ H Q=tA σ H fun xs H1=>xs.length<=sizeLine∧∀p,H1 p=none->Q (.ref p) (upd H1 p (.lst xs)):=rfl
theorem a_tup:tTup tA σ H Q=tA σ H fun xs H1=>xs.length<=sizeLine∧∀p,H1 p=none->Q (.ref p) (upd H1 p (.tup xs)):=rfl
theorem a_call {sp:Sp} {dvs:List V} {E:XK}:tCall sp dvs E tA σ H Q=tA σ H fun vs H1=>sp (vs++dvs) H1 Q E:=rfl
theorem a_cb {r:List V->Hp->VK->Prop}:tCB r tA σ H Q=tA σ H fun vs H1=>r vs H1 Q:=rfl
theorem a_bm0 {K:W.Frag} {T:String} {r:V->List V->Hp->VK->Prop}:tBM0 K T r to σ H Q=to σ H fun x H1=>tyV K T x H1∧r x [] H1 Q:=rfl
theorem a_bm {K:W.Frag} {T:String} {r:V->List V->Hp->VK->Prop}:tBM K T r to tA σ H Q=to σ H fun x H1=>tyV K T x H1∧tA σ H1 fun xs H2=>r x xs H2 Q:=rfl
theorem a_sl {r:V->Option Int->Option Int->Hp->VK->Prop} {tl th:TO}:tSl r te tl th σ H Q=te σ H fun x H1=>tl σ H1 fun l H2=>th σ H2 fun u H3=>r x l u H3 Q:=rfl
theorem a_nopart {Q:Option Int->Hp->Prop}:tNoPart σ H Q=Q none H:=rfl
theorem a_part {Q:Option Int->Hp->Prop}:tPart te σ H Q=te σ H fun x H1=>∃i,x=.int i∧Q (some i) H1:=rfl
theorem a_tyI {K:W.Frag} {T:String} {i:Int}:tyV K T (.int i) H=(T = "int"):=rfl
theorem a_tyL {K:W.Frag} {p:Addr} {xs:List V} (h:SqL K H p xs):tyV K "list" (.ref p) H:=.inl ⟨rfl,xs,h⟩
end
def Loop (J:It) (g:TG) (tb:TS) (D:Ends) (σ:St) (H:Hp):Prop:=∃W:Nat->Nat->St->Hp->Prop,(∃m,W 0 m σ H)∧∀i m σ H,W i m σ H->
 (J.stop i H∧D.nx σ H)∨(J.go i H∧∃N:St->Hp->Prop,(∀σ' H',N σ' H'->∃m',m' < m∧W (i+1) m' σ' H')∧∀x H',J.yld i H x H'->g x σ H' fun σ2 H2=>tb { D with nx:=N,ct:=N,bk:=D.nx } σ2 H2)
theorem a_for {wi:TI} {g:TG} {tb:TS} {D:Ends} {σ:St} {H:Hp}:tFor wi g tb D σ H=wi σ H fun J H1=>Loop J g tb D σ H1:=rfl
def CLoop (J:It) (fv:List (Nat×Str)) (te:TE) (Q:VK) (σ:St) (H1:Hp) (D:Addr):Prop:=∃W:Nat->Nat->Hp->Prop,(∃m,W 0 m (upd H1 D (.lst [])))∧∀i m H,W i m H->
 (J.stop i H∧Q (.ref D) H)∨(J.go i H∧∃N:Hp->Prop,(∀H',N H'->∃m',m' < m∧W (i+1) m' H')∧∀v H',J.yld i H v H'->te (bst fv σ (some v)) H' fun y H2=>∃ys,H2 D=some (.lst ys)∧ys.length < sizeLine∧N (upd H2 D (.lst (ys++[y]))))
theorem a_comp {fv:List (Nat×Str)} {wi:TI} {te:TE} {σ:St} {H:Hp} {Q:VK}:tComp fv wi te σ H Q=wi σ H fun J H1=>∀D,H1 D=none->CLoop J fv te Q σ H1 D:=rfl
theorem a_ilist {K:W.Frag} {tl:TE} {σ:St} {H:Hp} {R:It->Hp->Prop}:iList K tl σ H R=tl σ H fun x H1=>∃a,x=.ref a∧(∃xs,SqL K H1 a xs)∧R (Itl K a) H1:=rfl
theorem a_itup {K:W.Frag} {tl:TE} {σ:St} {H:Hp} {R:It->Hp->Prop}:iTup K tl σ H R=tl σ H fun x H1=>∃a,x=.ref a∧(∃xs,SqT K H1 a xs)∧R (Itt K a) H1:=rfl
theorem a_irng1 {ta:TA} {σ:St} {H:Hp} {R:It->Hp->Prop}:iRng1 ta σ H R=ta σ H fun vs H1=>∃j:Int,vs=[.int j]∧-(2 ^ 62)<=j∧j < 2 ^ 62∧R (Itr 0 j.toNat) H1:=rfl
theorem a_irng2 {ta:TA} {σ:St} {H:Hp} {R:It->Hp->Prop}:iRng2 ta σ H R=ta σ H fun vs H1=>∃i j:Int,vs=[.int i,.int j]∧(-(2 ^ 62)<=i∧i < 2 ^ 62∧-(2 ^ 62)<=j∧j < 2 ^ 62)∧R (Itr i (j - i).toNat) H1:=rfl
theorem a_irng3 {ta:TA} {σ:St} {H:Hp} {R:It->Hp->Prop}:iRng3 ta σ H R=ta σ H fun vs H1=>∃(i j k:Int) (n:Nat),vs=[.int i,.int j,.int k]∧k≠0∧k.natAbs < 1073741824∧Builtin.Range.small i j k=true∧Builtin.Range.rangeSize i j k=n∧R (Itrs i k n) H1:=rfl
theorem while_of {c:TT} {tb:TS} {D:Ends} {σ:St} {H:Hp} (Pv:Nat->St->Hp->Prop) (m:Nat) (h0:Pv m σ H)
  (hs:∀m σ H,Pv m σ H->c σ H fun b H1=>if b=true then ∃N:St->Hp->Prop,(∀σ' H',N σ' H'->∃m',m' < m∧Pv m' σ' H')∧tb { D with nx:=N,ct:=N,bk:=D.nx } σ H1 else D.nx σ H1):tWhile c tb D σ H:=⟨Pv,⟨m,h0⟩,hs⟩
section
variable {σ:St} {H:Hp} {Q:VK} {x y v:V} {K:W.Frag}
theorem a_rslL {lo hi:Option Int}:rSlL K x lo hi H Q=∃a xs,x=.ref a∧SqL K H a xs∧∀p,H p=none->Q (.ref p) (upd H p (.lst (cutV xs lo hi))):=rfl
theorem a_ixL:rIxL K x y H Q=∃p xs i v,x=.ref p∧y=.int i∧SqL K H p xs∧atI xs i=some v∧Q v H:=rfl
theorem a_ixT:rIxT K x y H Q=∃p xs i v,x=.ref p∧y=.int i∧SqT K H p xs∧atI xs i=some v∧Q v H:=rfl
theorem a_setL {Q:Hp->Prop}:rSetL x y v H Q=∃p xs k j,x=.ref p∧y=.int k∧H p=some (.lst xs)∧ixN xs.length k=some j∧Q (upd H p (.lst (xs.set j v))):=rfl
theorem a_app {vs:List V}:rAppend x vs H Q=∃l xs y,x=.ref l∧vs=[y]∧H l=some (.lst xs)∧xs.length < sizeLine∧Q .non (upd H l (.lst (xs++[y]))):=rfl
end
theorem bt_len:bootBuiltins "len" = some (.builtin "len"):=by decide +kernel
theorem bt_abs:bootBuiltins "abs" = some (.builtin "abs"):=by decide +kernel
theorem bt_isinstance:bootBuiltins "isinstance" = some (.builtin "isinstance"):=by decide +kernel
theorem bt_min:bootBuiltins "min" = some (.builtin "min"):=by decide +kernel
theorem bt_int:bootBuiltins "int" = some (.type "int"):=by decide +kernel
theorem bt_list:bootBuiltins "list" = some (.type "list"):=by decide +kernel
theorem bt_tuple:bootBuiltins "tuple" = some (.type "tuple"):=by decide +kernel
def tMid (t u:TS):TS:=fun D σ H=>∃M:St->Hp->Prop,t { D with nx:=M } σ H∧∀σ' H',M σ' H'->u D σ' H'
theorem pss_mid {X:Cx} {st:Stmt} {rest:List Stmt} {t u:TS} (h1:PS X st t) (h2:PSs X rest u):PSs X (st :: rest) (tMid t u):=by
 intro pins s σ H D I h
 obtain⟨M,h,hM⟩:=h
 refine wpAny_execs_cons (thn (h1 pins s σ H { D with nx:=M } I h) fun f s1 q=>?_)
 cases f with
 | next=>
  obtain⟨σ',H',I',q⟩:=q
  exact h2 pins s1 σ' H' D I' (hM σ' H' q)
 | ret v=>exact q
 | brk=>exact q
 | cont=>exact q
theorem mid_of {t u:TS} {D:Ends} {σ:St} {H:Hp} (M:St->Hp->Prop) (h1:t { D with nx:=M } σ H) (h2:∀σ' H',M σ' H'->u D σ' H'):tMid t u D σ H:=⟨M,h1,h2⟩
theorem a_cxK {CX:CXT} {P:Program} {w:World} {K:W.Frag} {mg:Str->Option Value} {base:Heap} {N:List Str} {qual:Str} {scope:Scope} {f:Addr} {cd:Value} {A:Around} {outer:List Env} {s:Shared} {H:Hp} {E:XK}:
  (cxOf CX P w K mg base N qual scope f cd A outer s H E).K=K:=rfl
section
variable {K:W.Frag} {a:Addr} {xs:List V} {g:TG} {tb:TS} {D:Ends} {σ:St} {H H1:Hp} {fv:List (Nat×Str)} {te:TE} {Q:VK} {L:Addr} {lo c:Int} {n:Nat}
theorem cl_list (Pv:Nat->Hp->Prop) (h0:Pv 0 (upd H1 L (.lst []))) (hl:∀i H,i<=xs.length->Pv i H->SqL K H a xs)
  (hs:∀i v H,xs[i]?=some v->Pv i H->te (bst fv σ (some v)) H fun y H2=>∃ys,H2 L=some (.lst ys)∧ys.length < sizeLine∧Pv (i+1) (upd H2 L (.lst (ys++[y])))) (hd:∀H,Pv xs.length H->Q (.ref L) H):
  CLoop (Itl K a) fv te Q σ H1 L:=comp_list Pv h0 hl hs hd
theorem cl_range (Pv:Nat->Hp->Prop) (h0:Pv 0 (upd H1 L (.lst [])))
  (hs:∀i H,i < n->Pv i H->te (bst fv σ (some (.int (lo+i)))) H fun y H2=>∃ys,H2 L=some (.lst ys)∧ys.length < sizeLine∧Pv (i+1) (upd H2 L (.lst (ys++[y])))) (hd:∀H,Pv n H->Q (.ref L) H):
  CLoop (Itr lo n) fv te Q σ H1 L:=comp_range Pv h0 hs hd
theorem lp_list (Pv:Nat->St->Hp->Prop) (h0:Pv 0 σ H) (hl:∀i σ H,i<=xs.length->Pv i σ H->SqL K H a xs)
  (hs:∀i v σ H,xs[i]?=some v->Pv i σ H->g v σ H fun σ2 H2=>tb { D with nx:=Pv (i+1),ct:=Pv (i+1),bk:=D.nx } σ2 H2) (hd:∀σ H,Pv xs.length σ H->D.nx σ H):Loop (Itl K a) g tb D σ H:=for_list Pv h0 hl hs hd
theorem lp_range (Pv:Nat->St->Hp->Prop) (h0:Pv 0 σ H)
  (hs:∀i σ H,i < n->Pv i σ H->g (.int (lo+i)) σ H fun σ2 H2=>tb { D with nx:=Pv (i+1),ct:=Pv (i+1),bk:=D.nx } σ2 H2) (hd:∀σ H,Pv n σ H->D.nx σ H):Loop (Itr lo n) g tb D σ H:=for_range Pv h0 hs hd
theorem upd_none {p:Addr} {o:HO} (h:upd H p o L=none):L≠p∧H L=none:=by
 by_cases e:L=p
 ·subst e;rw [upd_same] at h;cases h
 ·rw [upd_ne e] at h;exact⟨e,h⟩
end
section
variable {X:Cx}
mutual
inductive DV (K:W.Frag) (H:Hp):V->PyData->Prop
 | non:DV K H .non .none
 | bl (b):DV K H (.bl b) (.bool b)
 | int (i):DV K H (.int i) (.int i)
 | str (x):DV K H (.str x) (.str x)
 | lst {a xs ds}:SqL K H a xs->DVs K H xs ds->DV K H (.ref a) (.list ds)
 | tup {a xs ds}:SqT K H a xs->DVs K H xs ds->DV K H (.ref a) (.tuple ds)
inductive DVs (K:W.Frag) (H:Hp):List V->List PyData->Prop
 | nil:DVs K H [] []
 | cons {x xs d ds}:DV K H x d->DVs K H xs ds->DVs K H (x :: xs) (d :: ds)
end
mutual
theorem DV.reads {pins:List (Addr×Obj)} {σ:St} {H:Hp} {s:Shared} (I:Inv X pins σ H s):∀{x:V} {d:PyData} {v:Value},DV X.K H x d->RelV x v->∃as,Reads s.heap v d as
 | _,_,_,.non,r=>by cases r;exact⟨_,.none⟩
 | _,_,_,.bl b,r=>by cases r;exact⟨_,.bool b⟩
 | _,_,_,.int i,r=>by obtain⟨t,rfl⟩:=r;exact⟨_,.int i t⟩
 | _,_,_,.str x,r=>by obtain⟨t,rfl⟩:=r;exact⟨_,.str x t⟩
 | _,_,_,.lst hq hs,r=>by
  cases r
  obtain⟨its,rv,⟨o,n,e,c,_,hd⟩,_⟩:=I.list hq
  obtain⟨as,ra⟩:=DVs.reads I hs rv
  exact⟨_,.list e c hd (by simpa using ra)⟩
 | _,_,_,.tup hq hs,r=>by
  cases r
  obtain⟨its,rv,⟨o,e,c,n,hd⟩,_⟩:=I.tuple hq
  obtain⟨as,ra⟩:=DVs.reads I hs rv
  exact⟨_,.tuple e c hd (by simpa using ra)⟩
theorem DVs.reads {pins:List (Addr×Obj)} {σ:St} {H:Hp} {s:Shared} (I:Inv X pins σ H s):∀{xs:List V} {ds:List PyData} {vs:List Value},DVs X.K H xs ds->Vals xs vs->∃as,ReadsAll s.heap vs ds as
 | _,_,_,.nil,r=>by cases r;exact⟨_,.nil⟩
 | _,_,_,.cons h t,r=>by
  cases r with
  | cons r1 r2=>
   obtain⟨as,ra⟩:=DV.reads I h r1
   obtain⟨bs,rb⟩:=DVs.reads I t r2
   exact⟨_,.cons ra rb⟩
end
theorem op_eqD (hu:X.A.units+64 < cLine):OpR X (compareOp .Eq) (fun x y H Q=>∃da db,DV X.K H x da∧DV X.K H y db∧da.canLay0=true∧db.canLay0=true∧da.depth<=64∧Q (.bl (PyData.eqv da db)) H):=by
 intro pins s σ H x y v u Q I rx ry h
 obtain⟨da,db,hx,hy,c1,c2,hd,q⟩:=h
 obtain⟨as,ra⟩:=hx.reads I rx
 obtain⟨bs,rb⟩:=hy.reads I ry
 exact PySem.SeqAt.eqOverData _ _ _ _ _ _ _ _ _ _ _ _ ra rb c1 c2 (by omega) ⟨.bl _,H,I,rfl,q⟩
theorem op_neD (hu:X.A.units+64 < cLine):OpR X (compareOp .NotEq) (fun x y H Q=>∃da db,DV X.K H x da∧DV X.K H y db∧da.canLay0=true∧db.canLay0=true∧da.depth<=64∧Q (.bl (!PyData.eqv da db)) H):=by
 intro pins s σ H x y v u Q I rx ry h
 obtain⟨da,db,hx,hy,c1,c2,hd,q⟩:=h
 obtain⟨as,ra⟩:=hx.reads I rx
 obtain⟨bs,rb⟩:=hy.reads I ry
 exact PySem.SeqAt.neOverData _ _ _ _ _ _ _ _ _ _ _ _ ra rb c1 c2 (by omega) ⟨.bl _,H,I,rfl,q⟩
end
def Ite (K:W.Frag) (a:Addr):It:=
 ⟨fun i H=>∃xs x,SqL K H a xs∧xs[i]?=some x,fun i H v H'=>∃p x,H p=none∧v=.ref p∧H'=upd H p (.tup [.int i,x])∧∀xs,SqL K H a xs->xs[i]?=some x,fun i H=>∃xs,SqL K H a xs∧xs.length<=i⟩
section
variable {X:Cx}
def iEnum (K:W.Frag) (ta:TA):TI:=fun σ H R=>ta σ H fun vs H1=>∃a xs,vs=[.ref a]∧SqL K H1 a xs∧R (Ite K a) H1
end
theorem a_ienum {K:W.Frag} {ta:TA} {σ:St} {H:Hp} {R:It->Hp->Prop}:iEnum K ta σ H R=ta σ H fun vs H1=>∃a xs,vs=[.ref a]∧SqL K H1 a xs∧R (Ite K a) H1:=rfl
def Itv (K:W.Frag) (a:Addr) (n:Nat):It:=
 ⟨fun i H=>i < n∧∃xs,SqL K H a xs∧xs.length=n,fun i H x H'=>H'=H∧∀xs,SqL K H a xs->xs[n - 1 - i]?=some x,fun i _=>i=n⟩
section
variable {X:Cx} {tg:Expr}
def iRev (K:W.Frag) (ta:TA):TI:=fun σ H R=>ta σ H fun vs H1=>∃a xs,vs=[.ref a]∧SqL K H1 a xs∧R (Itv K a xs.length) H1
end
theorem a_irev {K:W.Frag} {ta:TA} {σ:St} {H:Hp} {R:It->Hp->Prop}:iRev K ta σ H R=ta σ H fun vs H1=>∃a xs,vs=[.ref a]∧SqL K H1 a xs∧R (Itv K a xs.length) H1:=rfl
section
variable {σ:St} {H:Hp} {Q:VK} {x y v:V} {vs:List V}
theorem a_cat:rCat x y H Q=∃l b xs zs,x=.ref l∧y=.ref b∧H l=some (.lst xs)∧H b=some (.lst zs)∧xs.length+zs.length<=sizeLine∧∀p,H p=none->Q (.ref p) (upd H p (.lst (xs++zs))):=rfl
theorem a_rep:rRep x y H Q=∃l k xs,x=.ref l∧y=.int k∧H l=some (.lst xs)∧-(2 ^ 63)<=k∧k < 2 ^ 63∧xs.length * k.toNat<=sizeLine∧∀p,H p=none->Q (.ref p) (upd H p (.lst (List.replicate k.toNat xs).flatten)):=rfl
theorem a_pop:rPop x vs H Q=∃l xs y,x=.ref l∧vs=[]∧H l=some (.lst xs)∧xs[xs.length - 1]?=some y∧Q y (upd H l (.lst xs.dropLast)):=rfl
theorem a_clear:rClear x vs H Q=∃l xs,x=.ref l∧vs=[]∧H l=some (.lst xs)∧Q .non (upd H l (.lst [])):=rfl
end
theorem op_mulZ {X:Cx}:OpR X (binaryOp .Mult) (rI IntMulOk fun i j=>.int (i * j)):=opI fun _ _ _ _ _ _ _ hc q=>mul_int q hc
def Bd (k:Nat) (x:Int):Prop:=x.natAbs < 2 ^ k
theorem Bd.mono {k l:Nat} {x:Int} (h:Bd k x) (hl:k<=l):Bd l x:=Nat.lt_of_lt_of_le h (Nat.pow_le_pow_right (by decide) hl)
theorem Bd.one {k:Nat} (h:0 < k):Bd k 1:=by
 have:Bd 1 1:=by show (1:Nat) < 2 ^ 1;decide
 exact this.mono h
theorem Bd.fits {k l:Nat} {x y:Int} (h:Bd k x) (g:Bd l y) (hz:k+l<=134217728):IntMulOk x y:=mulOk_of h g hz
theorem Bd.of_lt {k:Nat} {x:Int} {m:Nat} (h:x.natAbs < m) (hm:m<=2 ^ k):Bd k x:=Nat.lt_of_lt_of_le h hm
def newL (H:Hp) (Q:VK) (ys:List V):Prop:=∀r H',Same H H'->H r=none->H' r=some (.lst ys)->Q (.ref r) H'
theorem same_upd {H:Hp} {p:Addr} (h:H p=none) (o:HO):Same H (upd H p o):=fun b u q=>by rw [upd_ne (ne_of_none q h)];exact q
theorem Same.seqT {K:W.Frag} {H H':Hp} {a:Addr} {xs:List V} (e:Same H H') (h:SqT K H a xs):SqT K H' a xs:=by
 rcases h with (h | ⟨o,h⟩) | h
 ·exact .inl (.inl (e _ _ h))
 ·exact .inl (.inr ⟨o,e _ _ h⟩)
 ·exact .inr h
theorem at_int {xs:List Int} {i:Nat} (h:i < xs.length):atI (xs.map V.int) (i:Int)=some (V.int xs[i]):=atI_nat (by rw [List.getElem?_map,List.getElem?_eq_getElem h];rfl)
theorem ixN_neg {n i:Nat} (h:0 < i) (h2:i<=n):ixN n (-(i:Int))=some (n - i):=by
 unfold ixN
 rw [if_neg (by omega),if_pos (by omega)]
 congr 1
 omega
theorem Same.more {H H':Hp} {p:Addr} {o:HO} (e:Same H H') (h:H p=none):Same H (L2.upd H' p o):=fun b u q=>by rw [upd_ne (ne_of_none q h)];exact e b u q
section
variable {κ:Type} [DecidableEq κ]
end
section
variable {P:Program} {w:World} {H:Hp} {h:Heap} {a:Addr}
end
section
variable {X:Cx} {pins:List (Addr×Obj)} {σ:St} {H:Hp} {s:Shared} {a:Addr} {y v:V} {u r:Value} {o:Option V} {A:Around} {E:Value->Shared->Prop}
end
section
variable {X:Cx} {pins:List (Addr×Obj)} {σ:St} {H:Hp} {s:Shared} {a:Addr} {kvs:List (Key×V)} {k:Key} {u:Value} {A:Around} {E:Value->Shared->Prop}
end
section
variable {X:Cx} {o i e value:Expr} {pos pos' tpos:Pos} {td ty tv:TE}
end
section
variable {X:Cx} {pos:Pos}
end
structure M1 (X:Cx) (o:Expr) (m:Str) (apos:Pos) (e:Expr) (cpos:Pos):Prop where
 base:attributeBase o m X.env (eval o X.env)=eval o X.env
 few:((backTo cpos (starEach [e] X.env)).all (fun x=>!x.1) && (backToKw cpos (keywordEach [] X.env)).all (fun x=>x.1.isSome)
  && decide (([e]:List Expr).length+([]:List Keyword).length+(if ([]:List Keyword).isEmpty then 0 else 1) < 30))=true
 line:(apos.endLine == cpos.line)=true
 trees:backTo cpos (starEach [e] X.env)=[(false,eval e X.env)]
structure M2 (X:Cx) (o:Expr) (m:Str) (apos:Pos) (e f:Expr) (cpos:Pos):Prop where
 base:attributeBase o m X.env (eval o X.env)=eval o X.env
 few:((backTo cpos (starEach [e,f] X.env)).all (fun x=>!x.1) && (backToKw cpos (keywordEach [] X.env)).all (fun x=>x.1.isSome)
  && decide (([e,f]:List Expr).length+([]:List Keyword).length+(if ([]:List Keyword).isEmpty then 0 else 1) < 30))=true
 line:(apos.endLine == cpos.line)=true
 trees:backTo cpos (starEach [e,f] X.env)=[(false,eval e X.env),(false,eval f X.env)]
section
variable {X:Cx} {pins:List (Addr×Obj)} {σ:St} {H:Hp} {s:Shared} {a:Addr} {y d:V} {u r:Value} {o:Option V} {A:Around} {E:Value->Shared->Prop}
end
section
variable {X:Cx} {o e f:Expr} {apos cpos:Pos} {td ty tx:TE}
end
section
variable {X:Cx} {pins:List (Addr×Obj)} {σ:St} {H:Hp} {s:Shared} {a:Addr} {kvs:List (Key×V)} {A:Around} {E:Value->Shared->Prop}
end
section
variable {X:Cx} {pins:List (Addr×Obj)} {σ:St} {H:Hp} {s:Shared} {a:Addr} {y:V} {u:Value} {A:Around} {E:Value->Shared->Prop}
end
theorem ObjOk.ex {P:Program} {w:World} {H:Hp} {h:Heap} {a:Addr} {o:HO} (x:ObjOk P w H h a o):∃ob,h.get? a=some ob:=by
 cases o with
 | lst xs=>obtain⟨_,_,_,_,e⟩:=x;exact⟨_,e⟩
 | tup xs=>obtain⟨_,_,_,ob,e,_⟩:=x;exact⟨_,e⟩
 | dK kvs=>obtain⟨_,_,_,_,o,_,_,e,_⟩:=x;exact⟨_,e⟩
 | dT kvs=>obtain⟨_,_,_,_,o,_,_,e,_⟩:=x;exact⟨_,e⟩
 | set S n=>obtain⟨o,_,_,_,e,_⟩:=x;exact⟨_,e⟩
 | ins C dx fs=>obtain⟨_,_,_,e,_⟩:=x;exact⟨_,e⟩
 | own y=>obtain⟨_,e⟩:=x;exact⟨_,e⟩
 | xd fs=>obtain⟨_,⟨_,_,_,e,_⟩,_⟩:=x;exact⟨_,e⟩
 | rng lo hi=>obtain⟨_,_,_,e⟩:=x;exact⟨_,e⟩
 | frz ob u=>obtain⟨e,_⟩:=x;exact⟨_,e⟩
 | tbl ps=>exact⟨_,(show h.get? a=some _ from x)⟩
 | met f y=>exact⟨_,(show h.get? a=some _ from x)⟩
 | ext φ=>obtain⟨_,e,_⟩:=x;exact e
structure Grd (P:Program) (w:World) (fs:List Addr) (H H':Hp) (h B:Heap):Prop where
 keep:∀b o,h.get? b=some o->H b=none->b∉fs->B.get? b=some o
 there:∀b o,h.get? b=some o->b∉fs->∃o',B.get? b=some o'
 free:∀b o,h.get? b=some o->H b=none->H' b=none
 tups:∀b xs,H b=some (.tup xs)->H' b=some (.tup xs)
 frzs:∀b o u,H b=some (.frz o u)->H' b=some (.frz o u)
 tbls:∀b ps,H b=some (.tbl ps)->∃more,H' b=some (.tbl (ps++more))
 hok:HOk P w H' B
def Slt (fs:List Addr) (h h':Heap):Prop:=∀b o,h.get? b=some o->b∈fs->∃sl,h'.get? b=some { o with slots:=sl }
theorem Grd.un {P:Program} {w:World} {fs:List Addr} {H H':Hp} {h B h':Heap} (G:Grd P w fs H H' h B) (st:B.StaysIn h') (sl:Slt fs h h'):Un fs [] H H' h h':=
 ⟨fun b o q n hb _=>st b o (G.keep b o q n hb),fun b o q _ hb _=>sl b o q hb,fun b o q n _=>G.free b o q n,fun b o q _=>by
  by_cases hb:b∈fs
  ·obtain⟨_,e⟩:=sl b o q hb
   exact⟨_,e⟩
  ·obtain⟨o',e⟩:=G.there b o q hb
   exact⟨o',st b o' e⟩,G.tups,G.frzs,G.tbls⟩
def CXE (P:Program) (w:World):CXT:=fun outer H s E e s'=>∃(a t C:Addr) (H':Hp) (B:Heap),e=.ref a∧s'.os=s.os∧AllBare s'.gens∧Heap.FlyingW B outer a (.ref C) (.ref t) s'.heap∧
 Grd P w (frs outer) H H' s.heap B∧Slt (frs outer) s.heap s'.heap∧E (.ref C) none H'
theorem passF {P:Program} {w:World} {X:Cx}:Passes (CXE P w) X E0:=fun _ _ _ _ _ _ _ h=>by
 obtain⟨_,_,_,_,_,_,_,_,_,_,_,q⟩:=h
 exact q.elim
structure Top1 (X:Cx):Prop where
 st:X.stack=X.env :: X.outer
 fr:X.env.frame=some X.env.locals
section
variable {X:Cx} {pins:List (Addr×Obj)} {σ:St} {H H':Hp} {s:Shared}
theorem Slt.up {h1 h2:Heap} (I:Inv X pins σ H s) (a:Slt (frs X.stack) s.heap h1) (u:h1.UpToSlots h2):Slt (frs X.stack) s.heap h2:=fun b o q hb=>by
 obtain⟨_,o',ho',hd⟩:=I.stack.mem hb
 rw [q] at ho';cases ho'
 obtain⟨_,e⟩:=a b o q hb
 obtain⟨sl',e'⟩:=u b _ e hd
 exact⟨sl',e'⟩
theorem HOk.hide {P:Program} {w:World} {h:Heap} {fs:List Addr} (x:HOk P w H h) (hf:∀b∈fs,H b=none):HOk P w H (PySem.W.hideAll h fs):=fun a o e=>
 (x a o e).stay (fun b u hb q=>PySem.W.hideAll_get _ q fun z=>by
  have n:=hf b z
  rcases hb with hb | hb
  ·rw [hb,e] at n;cases n
  ·rw [hb] at n;cases n) (fun _ q=>q) fun _ _ q=>q
end
section
variable {P:Program} {w:World} {K:W.Frag} {mg:Str->Option Value} {base:Heap} {N:List Str} {qual:Str} {scope:Scope} {f:Addr} {cd:Value} {A:Around} {outer:List Env} {s0:Shared} {H0:Hp} {E:XK}
theorem nofr0 {pins:List (Addr×Obj)} {σ:St} {H:Hp} {s:Shared} (I:Inv (cxOf (CXE P w) P w K mg base N qual scope f cd A outer s0 H0 E) pins σ H s) {b:Addr} {o:Obj} (q:s0.heap.get? b=some o) (hb:b∉frs outer):
  b∉frs (envOfC qual scope s0.heap.objs.size f cd :: outer):=fun z=>by
 rcases List.mem_cons.mp (I.stkSub b z) with e | e
 ·exact absurd (Heap.lt_size q) (by rw [e];exact Nat.not_lt.mpr I.ok.above)
 ·exact hb e
theorem throw_here {pins:List (Addr×Obj)} {σ:St} {H:Hp} {s:Shared} {h':Heap} {a C:Addr} {args:List Value} (I:Inv (cxOf (CXE P w) P w K mg base N qual scope f cd A outer s0 H0 E) pins σ H s)
  (hx:Heap.MadeExcOf s.heap h' a (.ref C) args) (q:E (.ref C) none H):(cxOf (CXE P w) P w K mg base N qual scope f cd A outer s0 H0 E).xe (.ref a) { s with heap:=h' }:=by
 have hfs:∀b∈frs (envOfC qual scope s0.heap.objs.size f cd :: outer),H b=none:=I.stkFree
 have hin:∀env∈(envOfC qual scope s0.heap.objs.size f cd :: outer),∀b,env.frame=some b->b∈frs (envOfC qual scope s0.heap.objs.size f cd :: outer):=fun env he b hb=>List.mem_filterMap.mpr ⟨env,he,hb⟩
 have hst:s.heap.FunFrames base (envOfC qual scope s0.heap.objs.size f cd :: outer):=I.stack
 have noE:∀b:Addr,b∉(cxOf (CXE P w) P w K mg base N qual scope f cd A outer s0 H0 E).ex:=fun b z=>absurd (show b∈([]:List Addr) from z) (by simp)
 refine wpAny_leaves_madeW (base:=PySem.W.hideAll s.heap (frs (envOfC qual scope s0.heap.objs.size f cd :: outer))) I.ok.frames rfl (fun b o z=>PySem.W.of_hideAll _ z) (PySem.W.funFrames_hide hst hin) hx fun h2 t fl _ _ up=>?_
 refine⟨a,t,C,H,_,rfl,I.os,I.bare,fl,⟨fun b o e n hb=>?_,fun b o e hb=>?_,fun b o e n=>I.base.free b o e n (noE b),I.base.tups,I.base.frzs,I.base.tbls,I.hok.hide hfs⟩,fun b o e hb=>?_,q⟩
 ·exact PySem.W.hideAll_get _ (I.base.keep b o e n hb (noE b)) (nofr0 I e hb)
 ·obtain⟨o',e'⟩:=I.base.there b o e (noE b)
  exact⟨o',PySem.W.hideAll_get _ e' (nofr0 I e hb)⟩
 ·obtain⟨_,o',ho',hd⟩:=I.ok.funs.mem hb
  rw [show (cxOf (CXE P w) P w K mg base N qual scope f cd A outer s0 H0 E).s₀.heap.get? b=some o from e] at ho';cases ho'
  obtain⟨sl,e1⟩:=I.base.slot b o e (I.ok.frf b hb) hb (noE b)
  obtain⟨sl',e2⟩:=up b _ (hx.keeps _ _ e1) hd
  exact⟨sl',e2⟩
theorem passE:Passes (CXE P w) (cxOf (CXE P w) P w K mg base N qual scope f cd A outer s0 H0 E) E:=fun pins σ H s e s' I c=>by
 obtain⟨a,t,C,H',B,rfl,os,bare,fl,G,sl,q⟩:=c
 have noE:∀b:Addr,b∉(cxOf (CXE P w) P w K mg base N qual scope f cd A outer s0 H0 E).ex:=fun b z=>absurd (show b∈([]:List Addr) from z) (by simp)
 refine wpAny_leaves_onW I.ok.frames rfl fl fun h2 fl2 up=>?_
 refine⟨a,t,C,H',B,rfl,os.trans I.os,bare,fl2,⟨fun b o e n hb=>?_,fun b o e hb=>?_,fun b o e n=>?_,fun b xs z=>G.tups b xs (I.base.tups b xs z),fun b o u z=>G.frzs b o u (I.base.frzs b o u z),fun b ps z=>?_,G.hok⟩,fun b o e hb=>?_,q⟩
 ·exact G.keep b o (I.base.keep b o e n hb (noE b)) (I.base.free b o e n (noE b)) (nofr0 I e hb)
 ·obtain⟨o',e'⟩:=I.base.there b o e (noE b)
  exact G.there b o' e' (nofr0 I e hb)
 ·obtain⟨o',e'⟩:=I.base.there b o e (noE b)
  exact G.free b o' e' (I.base.free b o e n (noE b))
 ·obtain⟨m1,e1⟩:=I.base.tbls b ps z
  obtain⟨m2,e2⟩:=G.tbls b _ e1
  exact⟨m1++m2,by rw [e2,Array.append_assoc]⟩
 ·obtain⟨_,o',ho',hd⟩:=I.ok.funs.mem hb
  rw [show (cxOf (CXE P w) P w K mg base N qual scope f cd A outer s0 H0 E).s₀.heap.get? b=some o from e] at ho';cases ho'
  obtain⟨_,e1⟩:=I.base.slot b o e (I.ok.frf b hb) hb (noE b)
  obtain⟨_,e2⟩:=sl b _ e1 (by show b∈frs (envOfC qual scope s0.heap.objs.size f cd :: outer);exact List.mem_cons_of_mem _ hb)
  obtain⟨sl',e3⟩:=up b _ e2 hd
  exact⟨sl',e3⟩
theorem Fun.okE {x:Str} {st:Stmt} {fd:FuncData} {ps:List Str} {k:Nat} {sp:Sp} (F:Fun K x qual st f fd) (S:FnScope N ps (defScope st)) (len:∀vs H Q E,sp vs H Q E->vs.length=ps.length)
  (hbody:∀(cdv:Value) (A:Around) (outer:List Env) (s:Shared) (H:Hp) (vs:List V) (Q:VK) (E:XK),Room k (A.deeper (envOfC qual (defScope st) s.heap.objs.size f cdv))->sp vs H Q E->
   ∃t,PSs (cxOf (CXE P w) P w K mg base N qual (defScope st) f cdv A outer s H E) (defBody st) t∧t { nx:=fun _ H'=>Q .non H',rt:=Q } (start N vs) H):FnOk P w K mg base (CXE P w) (k+1) f fd ps sp:=by
 obtain⟨oc,od,kV,doc,pm,an,cdv,ct,osl,rfl,lk,hcd⟩:=F.ex
 exact fn_of lk hcd S len fun A outer s H vs Q E hr hsp=>hbody cdv A outer s H vs Q E hr hsp
end
theorem PS.nox {X:Cx} {st:Stmt} {t:TS} (h:PS X.nox st t):PS X st t:=fun pins s σ H D I hw=>
 wpAny_mono (h pins s σ H D (I.wish _) hw) (fun _ _ q=>q.unwish) fun _ _ z=>False.elim z
abbrev bmV:List Value:=[.type "ValueError",.type "Exception",.type "BaseException",.type "object"]
theorem exc_obj {K:W.Frag} {C:Addr} (q:PySem.W.excIn K C bmV "ValueError.__new__" = true):∃bm N nm qn bs hd sn sub ab col dd k0 k1 k2 k3 k5,
  K.lookup C=some (excClassObj nm qn C N bs bm hd sn sub ab col dd k0 k1 k2 k3 k5 "ValueError.__new__")∧PySem.W.tailIn K bmV bm=true∧PySem.W.nsOkIn K N=true∧PySem.W.nsIn K N "__init__" = some none:=by
 unfold PySem.W.excIn at q
 split at q
 ·rename_i dd cd sl ho
  split at q
  ·rename_i C1 bm k0 k1 k2 k3 n k5 hm hs
   rw [Bool.and_eq_true,Bool.and_eq_true,Bool.and_eq_true,Bool.and_eq_true,Bool.and_eq_true] at q
   obtain⟨⟨⟨⟨⟨q1,q2⟩,q3⟩,q4⟩,q5⟩,q6⟩:=q
   have r1:=beq_iff_eq.mp q1
   have r2:=beq_iff_eq.mp q2
   have r6:=beq_iff_eq.mp q6
   subst r1 r2
   obtain⟨nm,bs,mro,ns,qn,hd,sn,sub,ab,col,del⟩:=cd
   simp only at hm q3 q5 r6
   have q3':del=false:=by cases del <;> simp at q3 ⊢
   subst hm q3'
   obtain⟨l⟩:=sl
   simp only at hs
   subst hs
   exact⟨bm,ns,nm,qn,bs,hd,sn,sub,ab,col,dd,k0,k1,k2,k3,k5,ho,q4,q5,r6⟩
  ·cases q
 ·cases q
def Throws (X:Cx) (E:XK):Prop:=∀(pins:List (Addr×Obj)) (σ:St) (H:Hp) (s:Shared) (h':Heap) (a C:Addr) (args:List Value),Inv X pins σ H s->Heap.MadeExcOf s.heap h' a (.ref C) args->E (.ref C) none H->X.xe (.ref a) { s with heap:=h' }
theorem throwE {P:Program} {w:World} {K:W.Frag} {mg:Str->Option Value} {base:Heap} {N:List Str} {qual:Str} {scope:Scope} {f:Addr} {cd:Value} {A:Around} {outer:List Env} {s0:Shared} {H0:Hp} {E:XK}:
  Throws (cxOf (CXE P w) P w K mg base N qual scope f cd A outer s0 H0 E) E:=fun _ _ _ _ _ _ _ _ I hx q=>throw_here I hx q
def tRaise (C:Addr) (ta:TA) (E:XK):TS:=fun _ σ H=>ta σ H fun vs H1=>vs.length<=sizeLine∧E (.ref C) none H1
theorem a_raise {C:Addr} {ta:TA} {E:XK} {D:Ends} {σ:St} {H:Hp}:tRaise C ta E D σ H=ta σ H fun vs H1=>vs.length<=sizeLine∧E (.ref C) none H1:=rfl
theorem ps_raise {X:Cx} {E:XK} {x:Str} {C:Addr} {e0:Expr} {ta:TA} {np cpos pos:Pos} (hc:X.calm=true) (hr:Throws X E) (hg:Gl X x) (hm:X.mg x=some (.ref C)) (hx:PySem.W.excIn X.K C bmV "ValueError.__new__" = true) (ha:PA X [e0] ta)
  (he:starEach [e0] X.env=[(false,eval e0 X.env)]:=by rfl) (hpl:(backTo cpos (starEach [e0] X.env)).any (·.1)=false:=by rfl) (hd:(x == ("__debug__" : Str))=false:=by decide):
  PS X (.Raise (some (.Call (.Name x np) [e0] [] cpos)) none pos) (tRaise C ta E):=by
 intro pins s σ H D I h
 obtain⟨bm,N,nm,qn,bs,hdc,sn,sub,ab,col,dd,k0,k1,k2,k3,k5,lk,tl,ok,ni⟩:=exc_obj hx
 have T0:OwnTail s.heap bmV bm:=PySem.W.tail_of_in I.kIn tl
 refine wpAny_Raise_call_subT (C:=C) (nm:=nm) (q:=qn) (N:=N) (bs:=bs) (bm:=bm) (hdct:=hdc) (sn:=sn) (sub:=sub) (ab:=ab) (col:=col) (dd:=dd) (k0:=k0) (k1:=k1) (k2:=k2) (k3:=k3) (k5:=k5)
  PySem.F.excBase_ValueError (mN:=s.heap.nsMap N) (T0.hasType PySem.F.excBase_ValueError.hasBase) (I.ok.hd hc) hpl (PySem.W.nsMap_none_of_in I.kIn ok ni) (ld_glob I hg hm ⟨rfl,?_⟩ hd)
 have ns0:s.heap.Ns N (s.heap.nsMap N):=.of_isNs (PySem.W.isNs_of_in I.kIn ok)
 have h2:=ha cpos pins s σ H _ I h
 rw [he] at h2 ⊢
 refine Calls.evalArgs_plain (wpAny_mono h2 (fun vs s2 z=>?_) fun _ _ y=>y)
 obtain⟨xs,H1,I1,r1,q1,q2⟩:=z
 have eN:s.heap.nsMap N=s2.heap.nsMap N:=by
  obtain⟨o,es,ep,ho,hdt,_⟩:=id ns0
  unfold PySem.W.nsOkIn at ok
  split at ok
  ·rename_i z
   unfold Heap.nsMap
   rw [I.kIn _ _ z,I1.kIn _ _ z]
  ·cases ok
 refine⟨rfl,by rw [← r1.length];exact q1,I1.kIn _ _ lk,?_,PySem.W.tail_of_in I1.kIn tl,fun h' a hm'=>hr pins σ H1 s2 h' a C vs I1 hm' q2⟩
 rw [eN];exact .of_isNs (PySem.W.isNs_of_in I1.kIn ok)
def IsExc (a C:Addr):HO:=.ext fun h=>∃oe vs,h.get? a=some oe∧oe.cls=.ref C∧oe.data=.fields vs
abbrev Cx.hdl (X:Cx) (a:Addr):Cx:={ X with A:=X.A.mark (some (.ref a)),calm:=false,xe:=fun _ _=>False }
section
variable {X:Cx} {pins:List (Addr×Obj)} {σ:St} {H H':Hp} {s:Shared} {a:Addr}
theorem Inv.hdl (I:Inv X pins σ H s) (a:Addr):Inv (X.hdl a) pins σ H s:=
 ⟨⟨I.ok.mod,I.ok.kind,I.ok.glob,I.ok.blt,I.ok.above,I.ok.inj,I.ok.has,I.ok.cab,(fun z=>nomatch z),I.ok.frames,I.ok.stk,I.ok.exf,I.ok.bs,I.ok.bsz,I.ok.noex,I.ok.exfs,I.ok.funs,I.ok.frf⟩,I.os,I.bare,I.base,I.loc,I.cell,I.free,I.freeC,I.pin,I.hok,I.len⟩
theorem Inv.unhdl (I:Inv (X.hdl a) pins σ H s) (ok:X.Ok):Inv X pins σ H s:=⟨ok,I.os,I.bare,I.base,I.loc,I.cell,I.free,I.freeC,I.pin,I.hok,I.len⟩
theorem SP.unhdl {D:Ends} {f:Flow} {s':Shared} (ok:X.Ok) (h:SP (X.hdl a) pins D f s'):SP X pins D f s':=by
 cases f with
 | next=>obtain⟨σ',H',I,q⟩:=h;exact⟨σ',H',I.unhdl ok,q⟩
 | brk=>obtain⟨σ',H',I,q⟩:=h;exact⟨σ',H',I.unhdl ok,q⟩
 | cont=>obtain⟨σ',H',I,q⟩:=h;exact⟨σ',H',I.unhdl ok,q⟩
 | ret u=>obtain⟨v,σ',H',I,r,q⟩:=h;exact⟨v,σ',H',I.unhdl ok,r,q⟩
end
theorem exc_mro {K:W.Frag} {C:Addr} {b:Value} {r:Bool} {nm q:Str} {N:Addr} {bs bm:List Value} {hd:Bool} {sn:List Str} {sub:List Value} {ab:Bool} {col:Option Bool} {dd:Option Addr} {k0 k1 k2 k3 k5:Option Value} {nid:String}
  (lk:K.lookup C=some (excClassObj nm q C N bs bm hd sn sub ab col dd k0 k1 k2 k3 k5 nid)) (e:PySem.W.mroIn K C b=some r):(Value.ref C :: bm).contains b=r:=by
 obtain⟨cd,a,e2⟩:=Option.bind_eq_some_iff.mp e
 unfold PySem.W.clsIn at a
 rw [lk] at a
 simp only [excClassObj,Option.some.injEq] at a
 subst a
 simpa using e2
theorem matches_up {M:Model} {A:Around} {E:Value->Shared->Prop} {Q:Bool->Shared->Prop} {h:Heap} {g:Array GenState} {d:Drawn} {t:Nat} {os:OsState} {a C D:Addr} {oe:Obj}
  {nm q:Str} {N:Addr} {bs bm:List Value} {hd:Bool} {sn:List Str} {sub:List Value} {ab:Bool} {col:Option Bool} {dd:Option Addr} {k0 k1 k2 k3 k5:Option Value} {nid:String}
  {nm' q':Str} {N':Addr} {bs' bm':List Value} {hd':Bool} {sn':List Str} {sub':List Value} {ab':Bool} {col':Option Bool} {dd':Option Addr} {k0' k1' k2' k3' k5':Option Value} {nid':String}
  (hC:h.get? C=some (excClassObj nm q C N bs bm hd sn sub ab col dd k0 k1 k2 k3 k5 nid)) (hD:h.get? D=some (excClassObj nm' q' D N' bs' bm' hd' sn' sub' ab' col' dd' k0' k1' k2' k3' k5' nid'))
  (ha:h.get? a=some oe) (hcls:oe.cls=.ref C) (hb:(Value.ref D :: bm').contains (.type "BaseException")=true) (hs:(Value.ref C :: bm).contains (.ref D)=true) (hq:Q true ⟨h,g,d,t,os⟩):
  wpAny M A (excMatches (.ref a) (.ref D)) Q E ⟨h,g,d,t,os⟩:=by
 have f:=tc_notTuple
 unfold excMatches
 repeat (first | (with_reducible refine wpAny_loadPart_at ha ?_;rw [hcls]) | with_reducible refine wpAny_loadPart_at hD ?_ | (with_reducible refine wpAny_isSubtype_exc hD ?_;rw [hb]) | (with_reducible refine wpAny_isSubtype_exc hC ?_;rw [hs]) | wp_step)
 exact hq
structure Catches (K:W.Frag) (C D:Addr):Prop where
 c:PySem.W.excIn K C bmV "ValueError.__new__" = true
 d:PySem.W.excIn K D bmV "ValueError.__new__" = true
 base:PySem.W.mroIn K D (.type "BaseException")=some true
 sub:PySem.W.mroIn K C (.ref D)=some true
theorem matches_ok {K:W.Frag} {C D a:Addr} {oe:Obj} {M:Model} {A:Around} {E:Value->Shared->Prop} {Q:Bool->Shared->Prop} {s:Shared} (k:Catches K C D) (X:K.In s.heap) (ha:s.heap.get? a=some oe) (hcls:oe.cls=.ref C) (hq:Q true s):
  wpAny M A (excMatches (.ref a) (.ref D)) Q E s:=by
 obtain⟨bm,N,nm,qn,bs,hdc,sn,sub,ab,col,dd,k0,k1,k2,k3,k5,lk,_⟩:=exc_obj k.c
 obtain⟨bm',N',nm',qn',bs',hdc',sn',sub',ab',col',dd',k0',k1',k2',k3',k5',lk',_⟩:=exc_obj k.d
 obtain⟨h,g,d,t,os⟩:=s
 exact matches_up (X _ _ lk) (X _ _ lk') ha hcls (exc_mro lk' k.base) (exc_mro lk k.sub) hq
section
variable {X:Cx} {pins:List (Addr×Obj)} {σ:St} {H H':Hp} {s s2:Shared} {a t C:Addr} {B:Heap}
theorem exc_new (I:Inv X pins σ H s) (fl:Heap.FlyingW B X.stack a (.ref C) (.ref t) s2.heap) (G:Grd X.prog X.w (frs X.stack) H H' s.heap B) (sl:Slt (frs X.stack) s.heap s2.heap):s.heap.get? a=none∧H' a=none:=by
 constructor
 ·cases q:s.heap.get? a with
  | none=>rfl
  | some o=>
   by_cases hb:a∈frs X.stack
   ·obtain⟨_,o',ho',hd⟩:=I.stack.mem hb
    rw [q] at ho';cases ho'
    obtain⟨sl',e⟩:=sl a o q hb
    obtain⟨oe,vs,he,_,hdd,_⟩:=fl.first
    rw [e] at he;cases he
    exact absurd hdd (hd vs)
   ·obtain⟨o',e⟩:=G.there a o q hb
    rw [fl.2.1] at e;cases e
 ·cases q:H' a with
  | none=>rfl
  | some u=>
   obtain⟨ob,e⟩:=(G.hok a u q).ex
   rw [fl.2.1] at e;cases e
theorem landed {s3:Shared} (I:Inv X pins σ H s) (os:s3.os=s.os) (bare:AllBare s3.gens) (fl:Heap.FlyingW B X.stack a (.ref C) (.ref t) s3.heap) (G:Grd X.prog X.w (frs X.stack) H H' s.heap B) (sl:Slt (frs X.stack) s.heap s3.heap):
  Inv X pins σ (upd H' a (IsExc a C)) s3:=by
 obtain⟨n1,n2⟩:=exc_new I fl G sl
 have u:=G.un fl.1 sl
 have ne:∀b o,s.heap.get? b=some o->b≠a:=fun b o q z=>by rw [z,n1] at q;cases q
 have neH:∀b o,H' b=some o->b≠a:=fun b o q z=>by rw [z,n2] at q;cases q
 have neH0:∀b o,H b=some o->b≠a:=fun b o q=>by
  obtain⟨ob,e⟩:=(I.hok b o q).ex
  exact ne b ob e
 refine I.call' (ch:=[]) os ⟨u.keep,u.slot,fun b o q n hx=>by rw [upd_ne (ne b o q)];exact u.free b o q n hx,u.there,fun b xs q=>by rw [upd_ne (neH0 b _ q)];exact u.tups b xs q,fun b o w q=>by rw [upd_ne (neH0 b _ q)];exact u.frzs b o w q,fun b ps q=>by rw [upd_ne (neH0 b _ q)];exact u.tbls b ps q⟩ (fun b w e=>?_) bare (fun _ z=>nomatch z)
 by_cases hb:b=a
 ·subst hb
  rw [upd_same] at e;cases e
  obtain⟨oe,vs,h1,h2,h3,_⟩:=fl.first
  exact⟨⟨oe,vs,h1,h2,h3⟩,⟨oe,h1⟩,fun h1 h2 ⟨o1,w1,p,q,r⟩ k=>⟨o1,w1,k _ p,q,r⟩⟩
 ·rw [upd_ne hb] at e
  exact (G.hok b w e).stay (fun c v _ q=>fl.1 c v q) (fun c q=>by rw [upd_ne (neH c _ q)];exact q) fun c xs q=>by rw [upd_ne (neH c _ q)];exact q
end
def PXE (X:Cx) (e:Expr) (t:XK->TE):Prop:=∀(pins:List (Addr×Obj)) (s:Shared) (σ:St) (H:Hp) (Q:VK) (E:XK),Inv X pins σ H s->t E σ H Q->
 wpAny (model X.prog X.w) X.A (eval e X.env) (EP X pins σ Q) (fun x s'=>∃H1 s1,Inv X pins σ H1 s1∧CXE X.prog X.w X.stack H1 s1 E x s') s
def PX (X:Cx) (st:Stmt) (t:XK->TS):Prop:=∀(pins:List (Addr×Obj)) (s:Shared) (σ:St) (H:Hp) (D:Ends) (E:XK),Inv X pins σ H s->t E D σ H->
 wpAny (model X.prog X.w) X.A (exec st X.env) (SP X pins D) (fun x s'=>∃H1 s1,Inv X pins σ H1 s1∧CXE X.prog X.w X.stack H1 s1 E x s') s
section
variable {X:Cx} {k:Nat} {f:Addr} {fd:FuncData} {ps:List Str} {sp:Sp} {x:Str} {p pos:Pos} {e:Expr} {es:List Expr} {t:TA}
theorem px_call (F:FnOk X.prog X.w X.K X.mg X.base (CXE X.prog X.w) k f fd ps sp) (hr:Room k X.A) (hg:Gl X x) (hm:X.mg x=some (.ref f)) (hk:PySem.W.keepIn X.K (.ref f)=true) (hb:Binds X.K fd ps []) (ha:PA X.nox (e :: es) t)
  (hdb:(x == ("__debug__" : Str))=false:=by decide) (he:starEach (e :: es) X.env=(false,eval e X.env) :: starEach es X.env:=by rfl) (hpl:(backTo pos (starEach es X.env)).any (·.1)=false:=by rfl):
  PXE X (.Call (.Name x p) (e :: es) [] pos) (fun E=>tCall sp [] E t):=by
 intro pins s σ H Q E I h
 refine wpAny_Call_Name_kw (ld_glob I hg hm ?_ hdb)
 refine PySem.W.callWith_K (h₀:=X.base) I.ok.mod.kin hk (wpAny_mono (ha pos pins s σ H _ (I.wish _) h) (fun us s1 ⟨vs,H1,I1,r,q⟩=>⟨I1.kIn,?_⟩) fun _ _ z=>False.elim z) he hpl
 have I2:Inv X pins σ H1 s1:=I1.unwish
 have r2:Vals (vs++[]) (us++[]):=r.append .nil
 have hl:(us++[]).length=ps.length:=by rw [← r2.length];exact F.len _ _ _ _ q
 refine wpAny_call (codeAny_mono (F.run X.A X.stack s1 H1 ⟨us,[]⟩ (us++[]) (vs++[]) Q E hr I2.env0 (hb s1 us I2.kIn hl) r2 q) fun r s' hq=>?_)
 cases r with
 | error x=>exact⟨H1,s1,I2,hq⟩
 | ok fl=>
  cases fl with
  | ret u=>exact I2.after hq
  | next=>exact False.elim hq
  | brk=>exact False.elim hq
  | cont=>exact False.elim hq
theorem px_expr {te:XK->TE} (he:PXE X e te) (hs:swapsWith e none pos.line X.env=pure false:=by rfl):PX X (.Expr e pos) (fun E=>tDrop (te E)):=by
 intro pins s σ H D E I h
 exact wpAny_Expr_any (thn (he pins s σ H _ E I h) fun v s1 ⟨y,H1,I1,r1,q1⟩=>⟨σ,H1,I1,q1⟩) I.quiet hs
end
def tTry (K:W.Frag) (Dc:Addr) (t:XK->TS) (th:TS):TS:=fun D σ H=>t (fun c _ H1=>∃C,c=.ref C∧Catches K C Dc∧∀a,H1 a=none->th D σ (upd H1 a (IsExc a C))) D σ H
theorem a_try {K:W.Frag} {Dc:Addr} {t:XK->TS} {th:TS} {D:Ends} {σ:St} {H:Hp}:tTry K Dc t th D σ H=t (fun c _ H1=>∃C,c=.ref C∧Catches K C Dc∧∀a,H1 a=none->th D σ (upd H1 a (IsExc a C))) D σ H:=rfl
section
variable {X:Cx} {st b0:Stmt} {suite:List Stmt} {t:XK->TS} {th:TS} {x n:Str} {Dc:Addr} {np hpos pos:Pos}
theorem ps_try (T1:Top1 X) (h1:PX X st t) (hg:Gl X x) (hm:X.mg x=some (.ref Dc)) (hs:∀a,PSs (X.hdl a) (b0 :: suite) th) (hd:(x == ("__debug__" : Str))=false:=by decide):
  PS X (.Try [st] [.ExceptHandler (some (.Name x np)) none (b0 :: suite) hpos] [] [] pos) (tTry X.K Dc t th):=by
 intro pins s σ H D I h
 have hfr:X.A.frames=some (X.env :: X.outer):=by rw [I.ok.frames,T1.st]
 refine wpAny_Try_except (wpAny_mono (wpAny_execs_cons (thn (h1 pins s σ H D _ I h) fun f s1 q=>?_)) (fun _ _ y=>y) fun e s2 q=>?_)
 ·cases f with
  | next=>exact wpAny_execs_nil (wpAny_execs_nil q)
  | ret v=>exact q
  | brk=>exact q
  | cont=>exact q
 ·obtain⟨H1,s1,I1,a,tt,C,H',B,rfl,os,bare,fl,G,sl,Cc,eC,kc,qh⟩:=q
  cases eC
  have fl0:Heap.FlyingW B (X.env :: X.outer) a (.ref C) (.ref tt) s2.heap:=by rw [← T1.st];exact fl
  refine wpAny_looks_onW hfr T1.fr fl0 fun h4 held4 up4=>?_
  refine wpAny_landsW held4 fun h5 fl5 up5=>?_
  have sl5:=(sl.up I1 up4).up I1 up5
  have fl5':Heap.FlyingW B X.stack a (.ref C) (.ref tt) h5:=by rw [T1.st];exact fl5
  have J5:Inv X pins σ (upd H' a (IsExc a C)) { s2 with heap:=h5 }:=landed (s3:={ s2 with heap:=h5 }) I1 os bare fl5' G sl5
  refine wpAny_handleBy_cons (codeAny_handlers_test (ld_glob (X:=X.hdl a) (J5.hdl a) hg hm ?_ hd)) (by intro q;cases q)
  obtain⟨oe,vs,ho,hoc,_⟩:=fl5.first
  refine matches_ok kc J5.kIn ho hoc ?_
  refine codeAny_handlers_suite (lands_againW fl5 fun h6 fl6 up6=>?_)
  have fl6':Heap.FlyingW B X.stack a (.ref C) (.ref tt) h6:=by rw [T1.st];exact fl6
  have J6:Inv X pins σ (upd H' a (IsExc a C)) { s2 with heap:=h6 }:=landed (s3:={ s2 with heap:=h6 }) I1 os bare fl6' G (sl5.up I1 up6)
  exact wpAny_mono (hs a pins _ σ _ D (J6.hdl a) (qh a (exc_new I1 fl G sl).2)) (fun f s7 z=>z.unhdl I.ok) fun _ _ z=>False.elim z
end
def Ends.drop (D:Ends) (i:Nat):Ends:={ nx:=fun σ H=>D.nx (σ.set i none) H,rt:=D.rt,bk:=fun σ H=>D.bk (σ.set i none) H,ct:=fun σ H=>D.ct (σ.set i none) H }
def tTryAs (K:W.Frag) (Dc:Addr) (i:Nat) (t:XK->TS) (th:TS):TS:=fun D σ H=>t (fun c _ H1=>∃C,c=.ref C∧Catches K C Dc∧∀a,H1 a=none->th (D.drop i) (σ.set i (some (.ref a))) (upd H1 a (IsExc a C))) D σ H
theorem a_tryAs {K:W.Frag} {Dc:Addr} {i:Nat} {t:XK->TS} {th:TS} {D:Ends} {σ:St} {H:Hp}:tTryAs K Dc i t th D σ H=t (fun c _ H1=>∃C,c=.ref C∧Catches K C Dc∧∀a,H1 a=none->th (D.drop i) (σ.set i (some (.ref a))) (upd H1 a (IsExc a C))) D σ H:=rfl
theorem a_drop_nx {D:Ends} {i:Nat} {σ:St} {H:Hp}:(D.drop i).nx σ H=D.nx (σ.set i none) H:=rfl
section
variable {X:Cx} {st b0:Stmt} {suite:List Stmt} {t:XK->TS} {th:TS} {x n:Str} {Dc:Addr} {np hpos pos:Pos} {i:Nat}
end
open PySem PySem.Spec PySem.W PyProof.Rows Builtin Builtin.ObjectAttr Builtin.Getset_descriptor
section
variable {prog:Program} {w:World} {A:Around} {E:Value->Shared->Prop} {s:Shared} {K:W.Frag} {x C:Addr}
end
section
variable {X:Cx} {e st:Expr} {te:TE} {lo hi:Option Expr} {tl th ts:TO} {pos p2:Pos}
end
section
variable {X:Cx} {elt iter cnd:Expr} {x:Str} {px:Pos} {fv:List (Nat×Str)} {scope:Scope} {cl:List (Str×Addr)} {pos:Pos} {te:TE} {tt:TT} {wi:TI}
def CLoopIf (J:It) (fv:List (Nat×Str)) (tt:TT) (te:TE) (Q:VK) (σ:St) (H1:Hp) (D:Addr):Prop:=∃W:Nat->Nat->Hp->Prop,(∃m,W 0 m (upd H1 D (.lst [])))∧∀i m H,W i m H->
 (J.stop i H∧Q (.ref D) H)∨(J.go i H∧∃N:Hp->Prop,(∀H',N H'->∃m',m' < m∧W (i+1) m' H')∧∀v H',J.yld i H v H'->tt (bst fv σ (some v)) H' fun b Hb=>if b=true then te (bst fv σ (some v)) Hb fun y H2=>∃ys,H2 D=some (.lst ys)∧ys.length < sizeLine∧N (upd H2 D (.lst (ys++[y]))) else N Hb)
def tCompIf (fv:List (Nat×Str)) (wi:TI) (tt:TT) (te:TE):TE:=fun σ H Q=>wi σ H fun J H1=>∀D,H1 D=none->CLoopIf J fv tt te Q σ H1 D
end
theorem a_compIf {fv:List (Nat×Str)} {wi:TI} {tt:TT} {te:TE} {σ:St} {H:Hp} {Q:VK}:tCompIf fv wi tt te σ H Q=wi σ H fun J H1=>∀D,H1 D=none->CLoopIf J fv tt te Q σ H1 D:=rfl
def tFst (x:Str) (te:TE):TE:=fun σ H Q=>(Str.empty++x).length<=sizeLine∧te σ H fun v H1=>∃i,v=.int i∧i.natAbs.log2 < 1920∧(Str.empty++x++Str.ofString (toString i)).length<=sizeLine∧Q (.str (Str.empty++x++Str.ofString (toString i))) H1
theorem a_fst {x:Str} {te:TE} {σ:St} {H:Hp} {Q:VK}:tFst x te σ H Q=((Str.empty++x).length<=sizeLine∧te σ H fun v H1=>∃i,v=.int i∧i.natAbs.log2 < 1920∧(Str.empty++x++Str.ofString (toString i)).length<=sizeLine∧Q (.str (Str.empty++x++Str.ofString (toString i))) H1):=rfl
def bst2 (fv:List (Nat×Str)) (σ:St) (v v2:Option V):St:=v :: v2 :: fv.map fun p=>(σ[p.1]?).getD none
section
variable {X:Cx} {elt iter:Expr} {x z:Str} {px pz:Pos} {tk:Nat} {tpos:Pos} {fv:List (Nat×Str)} {scope:Scope} {cl:List (Str×Addr)} {pos:Pos} {te:TE} {wi:TI}
def CLoop2 (K:W.Frag) (J:It) (fv:List (Nat×Str)) (te:TE) (Q:VK) (σ:St) (H1:Hp) (D:Addr):Prop:=∃W:Nat->Nat->Hp->Prop,(∃m,W 0 m (upd H1 D (.lst [])))∧∀i m H,W i m H->
 (J.stop i H∧Q (.ref D) H)∨(J.go i H∧∃N:Hp->Prop,(∀H',N H'->∃m',m' < m∧W (i+1) m' H')∧∀v H',J.yld i H v H'->∃q x1 x2,v=.ref q∧SqT K H' q [x1,x2]∧te (bst2 fv σ (some x1) (some x2)) H' fun y H2=>∃ys,H2 D=some (.lst ys)∧ys.length < sizeLine∧N (upd H2 D (.lst (ys++[y]))))
def tComp2 (K:W.Frag) (fv:List (Nat×Str)) (wi:TI) (te:TE):TE:=fun σ H Q=>wi σ H fun J H1=>∀D,H1 D=none->CLoop2 K J fv te Q σ H1 D
theorem a_tComp2 {K:W.Frag} {σ:St} {H:Hp} {Q:VK}:tComp2 K fv wi te σ H Q=wi σ H fun J H1=>∀D,H1 D=none->CLoop2 K J fv te Q σ H1 D:=rfl
def FvOk2 (X:Cx) (scope:Scope) (cl:List (Str×Addr)) (fv:List (Nat×Str)):Prop:=∀p∈fv,X.N[p.1]?=some p.2∧(X.env.scope.names.lookup p.2=some .cell∨X.env.scope.names.lookup p.2=some .free)∧
  ((relabel scope X.env).names.lookup p.2=some .cell∨(relabel scope X.env).names.lookup p.2=some .free)∧∃c,cl.lookup p.2=some c
theorem fv_nil2 {X:Cx} {scope:Scope} {cl:List (Str×Addr)}:FvOk2 X scope cl []:=fun _ h=>nomatch h
end
def Itz (K:W.Frag) (a b:Addr):It:=
 ⟨fun i H=>∃xs ys x y,SqL K H a xs∧SqL K H b ys∧xs[i]?=some x∧ys[i]?=some y,fun i H v H'=>∃p x y,H p=none∧v=.ref p∧H'=upd H p (.tup [x,y])∧(∀xs,SqL K H a xs->xs[i]?=some x)∧∀ys,SqL K H b ys->ys[i]?=some y,
  fun i H=>∃xs ys,SqL K H a xs∧SqL K H b ys∧(xs.length<=i∨ys.length<=i)⟩
theorem turn_zip {P:Program} {w:World} {K:W.Frag} {elts:List Expr} {tk:Nat} {tpos:Pos} (a b z TI TO i1 i2:Addr) (D:ZipApart z TI TO i1 i2 a b):
  Turn P w K (.Tuple elts tk tpos) (Itz K a b) [z,TI,TO,i1,i2] z (fun i h=>IsZip h z TI TO .none∧IsPair h TI (.ref i1) (.ref i2)∧(∃u v,IsPair h TO u v)∧h.IsListIter i1 a i∧h.IsListIter i2 b i) where
 mem:=by simp
 obj:=fun i h st c hb=>by
  obtain⟨hz,hTI,⟨u,v,hTO⟩,⟨o1,e1,c1,d1⟩,⟨o2,e2,c2,d2⟩⟩:=st
  simp only [List.mem_cons,List.not_mem_nil,or_false] at hb
  rcases hb with rfl | rfl | rfl | rfl | rfl
  ·exact⟨_,hz,fun v z=>by
    have z':Data.fields _=Data.cell v:=z
    cases z'⟩
  ·exact⟨_,hTI,fun v z=>by
    have z':Data.seq _=Data.cell v:=z
    cases z'⟩
  ·exact⟨_,hTO,fun v z=>by
    have z':Data.seq _=Data.cell v:=z
    cases z'⟩
  ·exact⟨o1,e1,fun v z=>by rw [d1] at z;cases z⟩
  ·exact⟨o2,e2,fun v z=>by rw [d2] at z;cases z⟩
 keep:=fun i h h' st k=>by
  obtain⟨hz,hTI,⟨u,v,hTO⟩,h1,h2⟩:=st
  exact⟨k z (by simp) _ hz,k TI (by simp) _ hTI,⟨u,v,k TO (by simp) _ hTO⟩,h1.at fun o q=>k i1 (by simp) o q,h2.at fun o q=>k i2 (by simp) o q⟩
 item:=by
  intro X hP hw hK hc i pins s σ H E I hf st hg
  subst hP hw hK
  obtain⟨xs,ys,x,y,hq1,hq2,hx,hy⟩:=hg
  obtain⟨its1,rv1,pl1,hz1⟩:=I.list hq1
  obtain⟨its2,rv2,pl2,hz2⟩:=I.list hq2
  obtain⟨u1,hu1,ru1⟩:=rv1.get hx
  obtain⟨u2,hu2,ru2⟩:=rv2.get hy
  obtain⟨hz,hTI,⟨_,_,hTO⟩,hit1,hit2⟩:=st
  refine wpAny_pyNext_zip_item D hz hTI hTO hit1 hit2 pl1.isList pl2.isList (x:=u1) (y:=u2) (by simpa using hu1) (by simpa using hu2) fun h1 ho hTO1 hi1 hi2 hT hsz hk=>?_
  refine⟨_,rfl,wpAny_letOwnedTupleGo_zip ho fun h2 he2 hs2=>?_⟩
  have hp:H s.heap.objs.size=none:=I.hok.fresh (Nat.le_refl _)
  have hpz:s.heap.objs.size≠z:=Nat.ne_of_gt (Heap.lt_size hz)
  have k2:∀c o,c∉[z,TI,TO,i1,i2]->s.heap.get? c=some o->h2.get? c=some o:=fun c o hb q=>
   (hs2.2 c fun e=>hb (by simp [e])).trans (hk c o (fun e=>hb (by simp [e])) (fun e=>hb (by simp [e])) (fun e=>hb (by simp [e])) (fun e=>hb (by simp [e])) q)
  have hT2:h2.get? s.heap.objs.size=some { cls:=.type "tuple",data:=.seq #[u1,u2] }:=(hs2.2 _ hpz).trans hT
  have nch:∀c u,H c=some u->c∉[z,TI,TO,i1,i2]:=fun c u q hb=>by
   rw [(hf c hb).1] at q;cases q
  have up:∀c,c < s.heap.objs.size->c≠s.heap.objs.size:=fun c hb=>Nat.ne_of_lt hb
  have I2:Inv X pins σ (upd H s.heap.objs.size (.tup [x,y])) { s with heap:=h2 }:=by
   refine I.step (g':=s.gens) (d':=s.drawn) (t':=s.toks) (ch:=[z,TI,TO,i1,i2]) (fun c hb=>?_) (fun c o _ _ hc q _=>k2 c o hc q) (fun c o _ _ hc q _=>⟨o.slots,k2 c o hc q⟩)
    (fun c o _ q n=>by rw [upd_ne (up c (Heap.lt_size q))];exact n) (fun c o hc q=>⟨o,k2 c o hc q⟩) (fun c ys q=>by rw [upd_ne (ne_of_none q hp)];exact q) (fun c o v q=>by rw [upd_ne (ne_of_none q hp)];exact q)
    (fun c ps q=>⟨#[],by rw [upd_ne (ne_of_none q hp),q];simp⟩) (fun m hm=>?_) (fun c v q=>?_) I.bare
   ·obtain⟨f0,f1,f2,f3,f4,f5⟩:=hf c hb
    exact⟨f3,f1,f4,f5⟩
   ·obtain⟨o,es,ep,q,r⟩:=hm
    refine⟨o,es,ep,k2 _ o (fun e=>?_) q,r⟩
    exact (hf _ e).2.1 rfl
   ·by_cases hb:c=s.heap.objs.size
    ·subst hb
     rw [upd_same] at q;cases q
     exact⟨by show 2<=sizeLine;decide,[u1,u2],.cons ru1 (.cons ru2 .nil),⟨_,hT2,rfl,_,rfl⟩⟩
    ·rw [upd_ne hb] at q
     refine (I.hok c v q).stay (fun c' o hc r=>k2 c' o ?_ r) (fun c' r=>by rw [upd_ne (ne_of_none r hp)];exact r) fun c' ys r=>by rw [upd_ne (ne_of_none r hp)];exact r
     rcases hc with e | e
     ·rw [e];exact nch c v q
     ·exact nch c' _ e
  refine⟨.ref s.heap.objs.size,_,I2,rfl,⟨_,x,y,hp,rfl,rfl,fun zs hz'=>by rw [I.list_inj hz' hq1];exact hx,fun zs hz'=>by rw [I.list_inj hz' hq2];exact hy⟩,
   ⟨he2,(hs2.2 TI D.TIz).trans (hk TI _ D.TIz D.TITO D.TIi1 D.TIi2 hTI),⟨_,_,(hs2.2 TO D.TOz).trans hTO1⟩,hi1.at fun o q=>(hs2.2 i1 D.i1z).trans q,hi2.at fun o q=>(hs2.2 i2 D.i2z).trans q⟩,fun c hb=>?_⟩
  have lb:c < s.heap.objs.size:=by
   simp only [List.mem_cons,List.not_mem_nil,or_false] at hb
   rcases hb with rfl | rfl | rfl | rfl | rfl
   ·exact Heap.lt_size hz
   ·exact Heap.lt_size hTI
   ·exact Heap.lt_size hTO
   ·obtain⟨_,q,_⟩:=hit1;exact Heap.lt_size q
   ·obtain⟨_,q,_⟩:=hit2;exact Heap.lt_size q
  rw [upd_ne (up c lb)]
  exact (hf c hb).1
 done:=by
  intro X hP hw hK hc i pins s σ H E I hf st hg
  subst hP hw hK
  obtain⟨xs,ys,hq1,hq2,hx⟩:=hg
  obtain⟨its1,rv1,pl1,hz1⟩:=I.list hq1
  obtain⟨its2,rv2,pl2,hz2⟩:=I.list hq2
  obtain⟨hz,hTI,⟨_,_,hTO⟩,hit1,hit2⟩:=st
  have hl1:=rv1.length
  have hl2:=rv2.length
  refine wpAny_pyNext_zip_end (I.ok.hd hc) D hz hTI hTO hit1 hit2 pl1.isList pl2.isList (by rcases hx with e | e;exact .inl (by simp;omega);exact .inr (by simp;omega)) fun h' eb=>⟨rfl,?_⟩
  have k2:∀c o,c∉[z,TI,TO,i1,i2]->s.heap.get? c=some o->h'.get? c=some o:=fun c o hb q=>eb c o (fun e=>hb (by simp [e])) (fun e=>hb (by simp [e])) (fun e=>hb (by simp [e])) (fun e=>hb (by simp [e])) q
  refine I.step (g':=s.gens) (d':=s.drawn) (t':=s.toks) (ch:=[z,TI,TO,i1,i2]) (fun c hb=>?_) (fun c o _ _ hc q _=>k2 c o hc q) (fun c o _ _ hc q _=>⟨o.slots,k2 c o hc q⟩)
   (fun c o _ q n=>n) (fun c o hc q=>⟨o,k2 c o hc q⟩) (fun c ys q=>q) (fun c o v q=>q) (fun c ps q=>⟨#[],by rw [q];simp⟩) (fun m hm=>?_) (fun c v q=>?_) I.bare
  ·obtain⟨f0,f1,f2,f3,f4,f5⟩:=hf c hb
   exact⟨f3,f1,f4,f5⟩
  ·obtain⟨o,es,ep,q,r⟩:=hm
   exact⟨o,es,ep,k2 _ o (fun e=>(hf _ e).2.1 rfl) q,r⟩
  ·refine (I.hok c v q).stay (fun c' o hc r=>k2 c' o ?_ r) (fun c' r=>r) fun c' ys r=>r
   have nch:∀c u,H c=some u->c∉[z,TI,TO,i1,i2]:=fun c u q hb=>by
    rw [(hf c hb).1] at q;cases q
   rcases hc with e | e
   ·rw [e];exact nch c v q
   ·exact nch c' _ e
 self:=fun _ _ _ _ _ st h=>wpAny_pyIter_zip st.1 h
section
variable {X:Cx}
def iZip (K:W.Frag) (ta:TA):TI:=fun σ H R=>ta σ H fun vs H1=>∃a b xs ys,vs=[.ref a,.ref b]∧SqL K H1 a xs∧SqL K H1 b ys∧R (Itz K a b) H1
end
theorem a_izip {K:W.Frag} {ta:TA} {σ:St} {H:Hp} {R:It->Hp->Prop}:iZip K ta σ H R=ta σ H fun vs H1=>∃a b xs ys,vs=[.ref a,.ref b]∧SqL K H1 a xs∧SqL K H1 b ys∧R (Itz K a b) H1:=rfl
section
variable {X:Cx}
def ipC (C:Int->Int->Prop) (f:Int->Int->Int):TIp:=fun x y H Q=>∃i j,x=.int i∧y=.int j∧C i j∧Q (.int (f i j)) H
theorem a_ipC {C:Int->Int->Prop} {f:Int->Int->Int} {x y:V} {H:Hp} {Q:VK}:ipC C f x y H Q=∃i j,x=.int i∧y=.int j∧C i j∧Q (.int (f i j)) H:=rfl
end
section
variable {X:Cx} {elt iter cnd:Expr} {x:Str} {px:Pos} {fv:List (Nat×Str)} {scope:Scope} {cl:List (Str×Addr)} {pos:Pos} {te:TE} {tt:TT} {wi:TI}
end
section
variable {prog:Program} {w:World} {A:Around} {R:Result->Shared->Prop} {I S:Addr} {fp wr:List Addr} {n:Nat} {P:Nat->Value->Prop} {St:Nat->Heap->Prop} {bt:Nat->Nat->Bool} {d:List (Str×Value)}
end
def tMaxD (K:W.Frag) (t tk:TA):TE:=fun σ H Q=>t σ H fun vs H1=>tk σ H1 fun zs H2=>∃p ns d,vs=[.ref p]∧zs=[.int d]∧SqL K H2 p (ns.map V.int)∧∀M,(ns=[]∧M=d)∨(M∈ns∧∀a∈ns,a<=M)->Q (.int M) H2
theorem a_maxD {K:W.Frag} {t tk:TA} {σ:St} {H:Hp} {Q:VK}:tMaxD K t tk σ H Q=t σ H fun vs H1=>tk σ H1 fun zs H2=>∃p ns d,vs=[.ref p]∧zs=[.int d]∧SqL K H2 p (ns.map V.int)∧∀M,(ns=[]∧M=d)∨(M∈ns∧∀a∈ns,a<=M)->Q (.int M) H2:=rfl
theorem a_inS {K:W.Frag} {neg:Bool} {x y:V} {H:Hp} {Q:VK}:rIn K neg x y H Q=∃p xs,y=.ref p∧(SqL K H p xs∨SqT K H p xs)∧flatV x=true∧xs.all flatV=true∧Q (.bl (if neg then !inV x xs else inV x xs)) H:=rfl
open PySem
section
variable {prog:Program} {w:World} {A:Around} {E:Value->Shared->Prop} {s:Shared} {d:Addr} {es:Array DictEntry} {ep:Nat}
end
open PySem
section
variable {prog:Program} {w:World} {A:Around} {E:Value->Shared->Prop} {s:Shared} {d it:Addr} {es:Array DictEntry} {ep i:Nat} {ok ov:Value}
end
open PySem
section
variable {prog:Program} {w:World} {A:Around} {E:Value->Shared->Prop} {s:Shared} {d o:Addr} {es:Array DictEntry} {ep epd:Nat}
end
open PySem
section
variable {prog:Program} {w:World} {K:Type} [DecidableEq K] {kn:KeyKind prog w K} {A:Around} {E:Value->Shared->Prop}
end
section
variable {prog:Program} {w:World} {A:Around} {E:Value->Shared->Prop} {s:Shared}
end
open PySem
open PySem
section
variable {prog:Program} {w:World} {K:Type} [DecidableEq K] {kn:KeyKind prog w K} {A:Around} {E:Value->Shared->Prop} {s:Shared}
end
open PySem
section
variable {prog:Program} {w:World} {K:Type} [DecidableEq K] {knd:HeapKind prog w K} {A:Around} {E:Value->Shared->Prop} {s:Shared}
end
open PySem
section
variable {K:Type} [DecidableEq K]
end
open PySem
section
variable {prog:Program} {w:World} {A:Around} {E:Value->Shared->Prop} {s:Shared} {d it:Addr} {es:Array DictEntry} {ep i:Nat}
end
open PySem
inductive Tr where | lf | nd (l:Tr) (k:Nat) (r:Tr)
def Tr.ins (k:Nat):Tr->Option Tr
 | .lf=>some (.nd .lf k .lf)
 | .nd l m r=>match Nat.blt k m with
  | true=>match Tr.ins k l with | some l'=>some (.nd l' m r) | none=>none
  | false=>match Nat.blt m k with
   | true=>match Tr.ins k r with | some r'=>some (.nd l m r') | none=>none
   | false=>none
def Tr.all:List Nat->Tr->Bool
 | [],_=>true
 | k :: ks,t=>match t.ins k with | some t'=>Tr.all ks t' | none=>false
def Tr.mem (x:Nat):Tr->Prop
 | .lf=>False
 | .nd l k r=>x=k∨l.mem x∨r.mem x
abbrev P2:=Int×Int
section
variable {X:Cx} {pins:List (Addr×Obj)} {σ:St} {H H':Hp} {s:Shared} {a:Addr} {o:Obj} {kvs:List (List Key×V)}
end
section
variable {X:Cx}
end
section
variable {X:Cx} {elt iter cnd:Expr} {x z:Str} {px pz:Pos} {tk:Nat} {tpos:Pos} {fv:List (Nat×Str)} {scope:Scope} {cl:List (Str×Addr)} {pos:Pos} {te:TE} {tt:TT} {wi:TI}
end
section
variable {X:Cx}
end
section
variable {X:Cx} {pins:List (Addr×Obj)} {σ:St} {H:Hp} {s:Shared} {A:Around} {E:Value->Shared->Prop}
end
section
variable {X:Cx}
end
section
variable {X:Cx} {td ty tv tx to:TE} {σ:St} {H:Hp} {Q:VK} {D:Ends}
end
section
variable {prog:Program} {w:World} {A:Around} {E:Value->Shared->Prop} {s:Shared} {d:Addr} {es:Array DictEntry} {ep:Nat}
end
section
variable {X:Cx}
end
section
variable {X:Cx} {k:Nat} {f C:Addr} {fd:FuncData} {ps:List Str} {sp:Sp} {m:Str} {pos apos:Pos} {o e:Expr} {es:List Expr} {ta:TE} {t:TA}
end
section
variable {K:W.Frag} {C:Addr} {m f:Str} {sp:Sp} {dvs:List V} {E:XK} {ta tv:TE} {t:TA} {σ:St} {H:Hp} {Q:VK} {D:Ends}
theorem a_fld:tFld K ta f σ H Q=ta σ H fun x H1=>∃a C dx fs v,x=.ref a∧H1 a=some (.ins C dx fs)∧Cls K C∧NoAttr K C f∧fs.lookup f=some v∧Q v H1:=rfl
theorem a_sfld:sFld K ta tv f D σ H=tv σ H fun y H1=>ta σ H1 fun x H2=>∃a C dx fs,x=.ref a∧H2 a=some (.ins C dx fs)∧Cls K C∧NoAttr K C f∧fs.length < 1000∧D.nx σ (upd H2 a (.ins C dx (putF f y fs))):=rfl
theorem a_meth:tMeth C m sp dvs E ta t σ H Q=ta σ H fun x H1=>∃a dx fs,x=.ref a∧H1 a=some (.ins C dx fs)∧fs.lookup m=none∧t σ H1 fun vs H2=>sp (x :: (vs++dvs)) H2 Q E:=rfl
theorem a_make:tMake C sp dvs E t σ H Q=t σ H fun vs H1=>∀x dx,H1 x=none->H1 dx=none->dx≠x->sp (.ref x :: (vs++dvs)) (upd (upd H1 dx (.own x)) x (.ins C dx [])) (fun v H2=>v=.non∧Q (.ref x) H2) E:=rfl
end
section
variable {prog:Program} {w:World} {A:Around} {E:Value->Shared->Prop} {s:Shared}
theorem nxT_item {it t:Addr} {i:Nat} {items:Array Value} {x:Value} {Q:Value->Shared->Prop} (hit:s.heap.IsTupleIter it t i) (ht:s.heap.IsTuple t items) (hx:items[i]?=some x)
  (hQ:∀h',h'.IsTupleIter it t (i+1)->Heap.SameBut it s.heap h'->Q x { s with heap:=h' }):wpAny (model prog w) A (Builtin.SmallTypes.nextOf (.ref it)) Q E s:=by
 have ⟨o,ho,hc,hd⟩:=hit
 have ⟨ol,hol,_,nl,hdl⟩:=ht
 refine wpAny_bind (wpAny_callSpecial?_slot (name:=Str.ofString "__next__") hit.typeIs F.slot_tuple_iterator_next (wpAny_call_entry F.slot_tuple_iterator_next hit.typeIs F.entry_tuple_iterator_next ?_ (F.args_tuple_iterator_next_1 _)))
 refine wpAny_bind (m:=field (.ref it) 0) (wpAny_field ho hd (x:=.ref t) rfl ?_)
 refine wpAny_bind (m:=field (.ref it) 1) (wpAny_field ho hd (x:=.int i 0) rfl ?_)
 refine wpAny_bind (m:=seqItems? (.ref t)) (wpAny_seqItems hol hdl ?_)
 simp only [Int.toNat_natCast,hx]
 refine wpAny_bind (wpAny_setField ho hd (by simp) (wpAny_pure ⟨x,rfl,wpAny_pure (hQ _ ⟨_,Heap.get?_update_self _ ho (Obj.isFreed_of_fields (Obj.data_mapFields hd _)),(Obj.cls_mapFields ..).trans hc,?_⟩ (Heap.SameBut.update ..))⟩))
 rw [Obj.data_mapFields hd];simp [rawInt]
theorem nxT_end {it t:Addr} {i:Nat} {items:Array Value} {Q:Value->Shared->Prop} (hh:A.handled=none) (hit:s.heap.IsTupleIter it t i) (ht:s.heap.IsTuple t items) (hx:items[i]?=none)
  (hE:∀h' e,Heap.ExtBut it s.heap h'->(∃o,h'.get? e=some o∧o.cls=.type "StopIteration")->E (.ref e) { s with heap:=h' }):wpAny (model prog w) A (Builtin.SmallTypes.nextOf (.ref it)) Q E s:=by
 have ⟨o,ho,hc,hd⟩:=hit
 have ⟨ol,hol,_,nl,hdl⟩:=ht
 refine wpAny_bind (wpAny_callSpecial?_slot (name:=Str.ofString "__next__") hit.typeIs F.slot_tuple_iterator_next (wpAny_call_entry F.slot_tuple_iterator_next hit.typeIs F.entry_tuple_iterator_next ?_ (F.args_tuple_iterator_next_1 _)))
 refine wpAny_bind (m:=field (.ref it) 0) (wpAny_field ho hd (x:=.ref t) rfl ?_)
 refine wpAny_bind (m:=field (.ref it) 1) (wpAny_field ho hd (x:=.int i 0) rfl ?_)
 refine wpAny_bind (m:=seqItems? (.ref t)) (wpAny_seqItems hol hdl ?_)
 simp only [Int.toNat_natCast,hx]
 refine wpAny_bind (wpAny_rule (wpAny_bind (wpAny_setField ho hd (by simp) (wpAny_bind (m:=newExc (.type "StopIteration") []) ?_))))
 simp only [newExc,newTuple]
 refine wpAny_bind (wpAny_newObj_type (wpAny_bind (m:=firstArgMember _ _) (wpAny_of_eq (a:=Value.none) (by first | rfl | (simp only [firstArgMember];rfl)) (wpAny_newObj_type ?_ (by size_fits)))) (by size_fits))
 simp only [raiseNew]
 refine wpAny_bind (wpAny_handled ?_)
 first | rw [show A.in1.handled=none from hh] | rw [hh]
 exact wpAny_bind (wpAny_pure (wpAny_throw (hE _ _ (((Heap.SameBut.update ..).extBut.push _).push _) ⟨_,Heap.get?_push_size _ rfl,rfl⟩)))
theorem zipT_item {z TI TO i1 i2 l1 l2:Addr} {k:Nat} {xs ys:Array Value} {x y a b:Value} {Q:Value->Shared->Prop} (D:ZipApart z TI TO i1 i2 l1 l2)
  (hz:IsZip s.heap z TI TO .none) (hTI:IsPair s.heap TI (.ref i1) (.ref i2)) (hTO:IsPair s.heap TO a b) (h1:s.heap.IsTupleIter i1 l1 k) (h2:s.heap.IsTupleIter i2 l2 k) (t1:s.heap.IsTuple l1 xs) (t2:s.heap.IsTuple l2 ys) (hx:xs[k]?=some x) (hy:ys[k]?=some y)
  (hQ:∀h',IsZip h' z TI TO (rawInt s.heap.objs.size)->IsPair h' TO x y->h'.IsTupleIter i1 l1 (k+1)->h'.IsTupleIter i2 l2 (k+1)->IsPair h' s.heap.objs.size x y->
   (∀c o,c∉[z,TO,i1,i2]->s.heap.get? c=some o->h'.get? c=some o)->Q (.ref s.heap.objs.size) { s with heap:=h' }):
  wpAny (model prog w) A (Builtin.«zip.__next__» ⟨[.ref z],[]⟩) (fun fin s'=>∃v,fin=.done (.ret v)∧Q v s') E s:=by
 refine wpAny_bind (m:=field (.ref z) 2) (wpAny_field hz rfl (x:=.bool false) rfl ?_)
 refine wpAny_bind (m:=field (.ref z) 3) (wpAny_field hz rfl (x:=.ref TI) rfl (wpAny_bind (wpAny_seqItems hTI rfl ?_)))
 refine wpAny_bind (m:=Builtin.SmallTypes.ownedTupleIsFree (.ref z)) (wpAny_bind (m:=field (.ref z) 0) (wpAny_field hz rfl (x:=.none) rfl (wpAny_pure ?_)))
 simp only [if_true]
 refine wpAny_bind (wpAny_rule (wpAny_bind (wpAny_field hz rfl (x:=.ref TO) rfl (wpAny_bind (wpAny_setField_rec hz (by simp) fun g₁ z₁ c₁=>wpAny_bind ?_)))))
 replace z₁:IsZip g₁ z TI TO .ellipsis:=z₁
 simp only [List.zipIdx_cons,List.zipIdx_nil,List.forIn_cons,List.forIn_nil]
 have b₁:=c₁.extBut
 refine wpAny_bind (wpAny_bind (wpAny_onRaise (wpAny_bind (m:=Builtin.SmallTypes.nextOf (.ref i1)) (nxT_item (h1.extBut b₁ D.i1z) (t1.extBut b₁ D.l1z) hx fun g₂ j₂ c₂=>wpAny_pure ?_))))
 have b₂:=c₂.extBut
 have o₂:IsPair g₂ TO a b:=b₂ _ _ D.TOi1 (b₁ _ _ D.TOz hTO)
 refine wpAny_bind (wpAny_seqItems o₂ rfl (wpAny_bind (wpAny_updateSeq_pair o₂ fun g₃ o₃ c₃=>wpAny_bind (wpAny_letGo (wpAny_pure ?_)))))
 replace o₃:IsPair g₃ TO x b:=o₃
 have b₃:=c₃.extBut
 have e2:∀c o,c≠z->c≠i1->c≠TO->s.heap.get? c=some o->g₃.get? c=some o:=fun c o n1 n2 n3 e=>b₃ _ _ n3 (b₂ _ _ n2 (b₁ _ _ n1 e))
 refine wpAny_bind (wpAny_bind (wpAny_onRaise (wpAny_bind (m:=Builtin.SmallTypes.nextOf (.ref i2)) (nxT_item (s:={ s with heap:=g₃ }) (h2.at fun o e=>e2 _ o D.i2z D.i12.symm D.TOi2.symm e) (t2.at fun o e=>e2 _ o D.l2z D.l2i1 D.l2TO e) hy fun g₄ j₄ c₄=>wpAny_pure ?_))))
 have b₄:=c₄.extBut
 have o₄:IsPair g₄ TO x b:=b₄ _ _ D.TOi2 o₃
 refine wpAny_bind (wpAny_seqItems o₄ rfl (wpAny_bind (wpAny_updateSeq_pair o₄ fun g₅ o₅ c₅=>wpAny_bind (wpAny_letGo (wpAny_pure (wpAny_pure (wpAny_bind ?_)))))))
 replace o₅:IsPair g₅ TO x y:=o₅
 have b₅:=c₅.extBut
 refine wpAny_seqItems o₅ rfl (wpAny_bind (wpAny_newTuple ?_))
 have sz:g₅.objs.size=s.heap.objs.size:=by rw [c₅.1,c₄.1,c₃.1,c₂.1,c₁.1]
 have z₅:IsZip g₅ z TI TO .ellipsis:=b₅ _ _ D.TOz.symm (b₄ _ _ D.i2z.symm (b₃ _ _ D.TOz.symm (b₂ _ _ D.i1z.symm z₁)))
 have j₁:g₅.IsTupleIter i1 l1 (k+1):=j₂.at fun o e=>b₅ _ _ D.TOi1.symm (b₄ _ _ D.i12 (b₃ _ _ D.TOi1.symm e))
 have j₅:g₅.IsTupleIter i2 l2 (k+1):=j₄.at fun o e=>b₅ _ _ D.TOi2.symm e
 have lz:z < g₅.objs.size:=Heap.lt_size z₅
 refine wpAny_bind (m:=Builtin.SmallTypes.ownedTupleHandOut (.ref z) (.ref g₅.objs.size)) (wpAny_bind (wpAny_setField_rec (Heap.get?_push_of_some _ z₅) (by simp) fun g₇ z₇ c₇=>?_))
 replace z₇:IsZip g₇ z TI TO (rawInt g₅.objs.size):=z₇
 refine wpAny_setField_rec z₇ (by simp) fun g₈ z₈ c₈=>?_
 replace z₈:IsZip g₈ z TI TO (rawInt g₅.objs.size):=z₈
 have up:∀c o,c≠z->(g₅.push { cls:=.type "tuple",data:=.seq #[x,y] }).get? c=some o->g₈.get? c=some o:=fun c o n e=>c₈.extBut _ _ n (c₇.extBut _ _ n e)
 have T₈:IsPair g₈ g₅.objs.size x y:=up _ _ (Nat.ne_of_gt lz) (Heap.get?_push_size _ rfl)
 have up5:∀c o,c≠z->g₅.get? c=some o->g₈.get? c=some o:=fun c o n e=>up c o n (Heap.get?_push_of_some _ e)
 refine wpAny_pure ⟨_,rfl,?_⟩
 show Q (.ref g₅.objs.size) _
 rw [sz] at z₈ T₈ ⊢
 refine hQ g₈ z₈ (up5 _ _ D.TOz o₅) (j₁.at fun o e=>up5 _ o D.i1z e) (j₅.at fun o e=>up5 _ o D.i2z e) T₈ fun c o hc e=>?_
 have n1:c≠z:=fun h=>hc (by simp [h])
 have n2:c≠TO:=fun h=>hc (by simp [h])
 have n3:c≠i1:=fun h=>hc (by simp [h])
 have n4:c≠i2:=fun h=>hc (by simp [h])
 exact up5 c o n1 (b₅ _ _ n2 (b₄ _ _ n4 (e2 c o n1 n3 n2 e)))
theorem zipT_end {z TI TO i1 i2 l1 l2:Addr} {k:Nat} {xs ys:Array Value} {a b:Value} {Q:Fin->Shared->Prop} (hh:A.handled=none) (D:ZipApart z TI TO i1 i2 l1 l2)
  (hz:IsZip s.heap z TI TO .none) (hTI:IsPair s.heap TI (.ref i1) (.ref i2)) (hTO:IsPair s.heap TO a b) (h1:s.heap.IsTupleIter i1 l1 k) (h2:s.heap.IsTupleIter i2 l2 k) (t1:s.heap.IsTuple l1 xs) (t2:s.heap.IsTuple l2 ys) (hx:xs[k]?=none∨ys[k]?=none)
  (hE:∀h' e,(∀c o,c∉[z,TO,i1,i2]->s.heap.get? c=some o->h'.get? c=some o)->(∃o,h'.get? e=some o∧o.cls=.type "StopIteration")->E (.ref e) { s with heap:=h' }):
  wpAny (model prog w) A (Builtin.«zip.__next__» ⟨[.ref z],[]⟩) Q E s:=by
 refine wpAny_bind (m:=field (.ref z) 2) (wpAny_field hz rfl (x:=.bool false) rfl ?_)
 refine wpAny_bind (m:=field (.ref z) 3) (wpAny_field hz rfl (x:=.ref TI) rfl (wpAny_bind (wpAny_seqItems hTI rfl ?_)))
 refine wpAny_bind (m:=Builtin.SmallTypes.ownedTupleIsFree (.ref z)) (wpAny_bind (m:=field (.ref z) 0) (wpAny_field hz rfl (x:=.none) rfl (wpAny_pure ?_)))
 simp only [if_true]
 refine wpAny_bind (wpAny_rule (wpAny_bind (wpAny_field hz rfl (x:=.ref TO) rfl (wpAny_bind (wpAny_setField_rec hz (by simp) fun g₁ z₁ c₁=>wpAny_bind ?_)))))
 replace z₁:IsZip g₁ z TI TO .ellipsis:=z₁
 simp only [List.zipIdx_cons,List.zipIdx_nil,List.forIn_cons,List.forIn_nil]
 have b₁:=c₁.extBut
 have nz:∀{g:Heap} {e:Addr} {o:Obj},IsZip g z TI TO .ellipsis->g.get? e=some o->o.cls=.type "StopIteration" -> e≠z:=fun {g e o} q r c h=>by
  subst h
  rw [q] at r;cases r;simp at c
 cases hx1:xs[k]? with
 | none=>
  refine wpAny_bind (wpAny_bind (wpAny_onRaise (wpAny_bind (m:=Builtin.SmallTypes.nextOf (.ref i1)) (nxT_end hh (h1.extBut b₁ D.i1z) (t1.extBut b₁ D.l1z) hx1 fun g₂ e b₂ ⟨oe,he,ce⟩=>?_))))
  have z₂:IsZip g₂ z TI TO .ellipsis:=b₂ _ _ D.i1z.symm z₁
  refine wpAny_setField_rec z₂ (by simp) fun g₃ _ c₃=>hE g₃ e (fun c o hc q=>?_) ⟨oe,c₃.extBut _ _ (nz z₂ he ce) he,ce⟩
  exact c₃.extBut _ _ (fun h=>hc (by simp [h])) (b₂ _ _ (fun h=>hc (by simp [h])) (b₁ _ _ (fun h=>hc (by simp [h])) q))
 | some x=>
  have hy:ys[k]?=none:=hx.resolve_left (by rw [hx1];exact fun h=>nomatch h)
  refine wpAny_bind (wpAny_bind (wpAny_onRaise (wpAny_bind (m:=Builtin.SmallTypes.nextOf (.ref i1)) (nxT_item (h1.extBut b₁ D.i1z) (t1.extBut b₁ D.l1z) hx1 fun g₂ j₂ c₂=>wpAny_pure ?_))))
  have b₂:=c₂.extBut
  have o₂:IsPair g₂ TO a b:=b₂ _ _ D.TOi1 (b₁ _ _ D.TOz hTO)
  refine wpAny_bind (wpAny_seqItems o₂ rfl (wpAny_bind (wpAny_updateSeq_pair o₂ fun g₃ o₃ c₃=>wpAny_bind (wpAny_letGo (wpAny_pure ?_)))))
  have b₃:=c₃.extBut
  have e2:∀c o,c≠z->c≠i1->c≠TO->s.heap.get? c=some o->g₃.get? c=some o:=fun c o n1 n2 n3 e=>b₃ _ _ n3 (b₂ _ _ n2 (b₁ _ _ n1 e))
  refine wpAny_bind (wpAny_bind (wpAny_onRaise (wpAny_bind (m:=Builtin.SmallTypes.nextOf (.ref i2)) (nxT_end (s:={ s with heap:=g₃ }) hh (h2.at fun o e=>e2 _ o D.i2z D.i12.symm D.TOi2.symm e) (t2.at fun o e=>e2 _ o D.l2z D.l2i1 D.l2TO e) hy fun g₄ e b₄ ⟨oe,he,ce⟩=>?_))))
  have z₄:IsZip g₄ z TI TO .ellipsis:=b₄ _ _ D.i2z.symm (b₃ _ _ D.TOz.symm (b₂ _ _ D.i1z.symm z₁))
  refine wpAny_setField_rec z₄ (by simp) fun g₅ _ c₅=>hE g₅ e (fun c o hc q=>?_) ⟨oe,c₅.extBut _ _ (nz z₄ he ce) he,ce⟩
  exact c₅.extBut _ _ (fun h=>hc (by simp [h])) (b₄ _ _ (fun h=>hc (by simp [h])) (e2 c o (fun h=>hc (by simp [h])) (fun h=>hc (by simp [h])) (fun h=>hc (by simp [h])) q))
theorem pyNext_zipT {z TI TO i1 i2 l1 l2:Addr} {k:Nat} {xs ys:Array Value} {x y a b:Value} {Q:Option Value->Shared->Prop} (D:ZipApart z TI TO i1 i2 l1 l2)
  (hz:IsZip s.heap z TI TO .none) (hTI:IsPair s.heap TI (.ref i1) (.ref i2)) (hTO:IsPair s.heap TO a b) (h1:s.heap.IsTupleIter i1 l1 k) (h2:s.heap.IsTupleIter i2 l2 k) (t1:s.heap.IsTuple l1 xs) (t2:s.heap.IsTuple l2 ys) (hx:xs[k]?=some x) (hy:ys[k]?=some y)
  (hQ:∀h',IsZip h' z TI TO (rawInt s.heap.objs.size)->IsPair h' TO x y->h'.IsTupleIter i1 l1 (k+1)->h'.IsTupleIter i2 l2 (k+1)->IsPair h' s.heap.objs.size x y->
   (∀c o,c∉[z,TO,i1,i2]->s.heap.get? c=some o->h'.get? c=some o)->Q (some (.ref s.heap.objs.size)) { s with heap:=h' }):wpAny (model prog w) A (pyNext (.ref z)) Q E s:=by
 have hT:s.TypeIs (.ref z) "zip" := ⟨_,hz,rfl⟩
 exact wpAny_bind (wpAny_attempt (wpAny_callSpecial?_slot (name:=Str.ofString "__next__") hT F.slot_zip_next (wpAny_call_entry F.slot_zip_next hT F.entry_zip_next
  (zipT_item D hz hTI hTO h1 h2 t1 t2 hx hy fun h' a1 a2 a3 a4 a5 a6=>wpAny_pure (hQ h' a1 a2 a3 a4 a5 a6)) (F.args_zip_next_1 _))))
theorem pyNext_zipTEnd {z TI TO i1 i2 l1 l2:Addr} {k:Nat} {xs ys:Array Value} {a b:Value} {Q:Option Value->Shared->Prop} (hh:A.handled=none) (D:ZipApart z TI TO i1 i2 l1 l2)
  (hz:IsZip s.heap z TI TO .none) (hTI:IsPair s.heap TI (.ref i1) (.ref i2)) (hTO:IsPair s.heap TO a b) (h1:s.heap.IsTupleIter i1 l1 k) (h2:s.heap.IsTupleIter i2 l2 k) (t1:s.heap.IsTuple l1 xs) (t2:s.heap.IsTuple l2 ys) (hx:xs[k]?=none∨ys[k]?=none)
  (hQ:∀h',(∀c o,c∉[z,TO,i1,i2]->s.heap.get? c=some o->h'.get? c=some o)->Q none { s with heap:=h' }):wpAny (model prog w) A (pyNext (.ref z)) Q E s:=by
 have hT:s.TypeIs (.ref z) "zip" := ⟨_,hz,rfl⟩
 refine wpAny_bind (wpAny_attempt (wpAny_callSpecial?_slot (name:=Str.ofString "__next__") hT F.slot_zip_next (wpAny_call_entry F.slot_zip_next hT F.entry_zip_next (zipT_end hh D hz hTI hTO h1 h2 t1 t2 hx fun h' e hk ⟨o,ho,hc⟩=>?_) (F.args_zip_next_1 _))))
 exact wpAny_bind (wpAny_isInstance (T := "StopIteration") (b:=true) ⟨o,ho,hc⟩ isSubtype_stop (wpAny_pure (hQ _ hk)))
end
def zpT (h:Heap) (a b:Addr):Heap:=
 ((((h.push { cls:=.type "tuple_iterator",data:=.fields #[.ref a,.int 0 0] }).push { cls:=.type "tuple_iterator",data:=.fields #[.ref b,.int 0 0] }).push { cls:=.type "tuple",data:=.seq #[.ref h.objs.size,.ref (h.push { cls:=.type "tuple_iterator",data:=.fields #[.ref a,.int 0 0] }).objs.size] }).push { cls:=.type "tuple",data:=.seq #[.none,.none] }).push
  { cls:=.type "zip",data:=.fields #[.none,.bool false,.bool false,.ref ((h.push { cls:=.type "tuple_iterator",data:=.fields #[.ref a,.int 0 0] }).push { cls:=.type "tuple_iterator",data:=.fields #[.ref b,.int 0 0] }).objs.size,
   .ref (((h.push { cls:=.type "tuple_iterator",data:=.fields #[.ref a,.int 0 0] }).push { cls:=.type "tuple_iterator",data:=.fields #[.ref b,.int 0 0] }).push { cls:=.type "tuple",data:=.seq #[.ref h.objs.size,.ref (h.push { cls:=.type "tuple_iterator",data:=.fields #[.ref a,.int 0 0] }).objs.size] }).objs.size] }
theorem zpT_size (h:Heap) (a b:Addr):(zpT h a b).objs.size=h.objs.size+5:=by unfold zpT;rw [Heap.size_push,Heap.size_push,Heap.size_push,Heap.size_push,Heap.size_push]
theorem meetsT (l1 l2:Addr) (xs ys:Array Value):Meets (Builtin.«zip.__new__» ⟨[.type "zip",.ref l1,.ref l2],[]⟩) (fun _ R s=>s.heap.IsTuple l1 xs∧s.heap.IsTuple l2 ys∧R (.ok (.ret (.ref (s.heap.objs.size+4)))) { s with heap:=zpT s.heap l1 l2 }):=
 .of_wp fun prog w A R s h=>by
  obtain⟨hp,g,d,tk,os⟩:=s
  obtain⟨q1,q2,h⟩:=h
  have hsub:=sub_zip
  have k1:Heap.IsTuple (Shared.heap ⟨hp,g,d,tk,os⟩) l1 xs:=q1
  have k2:Heap.IsTuple (Shared.heap ⟨hp.push { cls:=.type "tuple_iterator",data:=.fields #[.ref l1,.int 0 0] },g,d,tk,os⟩) l2 ys:=Heap.IsTuple.push q2 _
  wp_walk using wpAny_pyIter_tuple k1,wpAny_pyIter_tuple k2
  refine⟨_,rfl,?_⟩
  have e:(zpT hp l1 l2).objs.size=hp.objs.size+5:=zpT_size hp l1 l2
  unfold zpT at e h
  rw [Heap.size_push] at e
  have e4:=Nat.succ.inj e
  rw [← e4] at h
  exact h
section
variable {prog:Program} {w:World} {A:Around} {E:Value->Shared->Prop} {s:Shared}
theorem call_zipT {l1 l2:Addr} {xs ys:Array Value} {Q:Value->Shared->Prop} (q1:s.heap.IsTuple l1 xs) (q2:s.heap.IsTuple l2 ys)
  (h:∀h',IsZip h' (s.heap.objs.size+4) (s.heap.objs.size+2) (s.heap.objs.size+3) .none->IsPair h' (s.heap.objs.size+2) (.ref s.heap.objs.size) (.ref (s.heap.objs.size+1))->
   IsPair h' (s.heap.objs.size+3) .none .none->h'.IsTupleIter s.heap.objs.size l1 0->h'.IsTupleIter (s.heap.objs.size+1) l2 0->(∀c o,s.heap.get? c=some o->h'.get? c=some o)->Q (.ref (s.heap.objs.size+4)) { s with heap:=h' }):
  wpAny (model prog w) A (call (.type "zip") [.ref l1,.ref l2]) Q E s:=by
 refine callType_new F.called_zip (by decide) (F.typeCall_zip_2 _ _) (F.newCall_zip_2 _ _) (fun obj=>F.args_object_init_3 obj _ _) F.entry_zip_new (meetsT l1 l2 xs ys) ⟨q1,q2,?_⟩
 obtain⟨H1,e1⟩:∃H1,H1=s.heap.push { cls:=.type "tuple_iterator",data:=.fields #[.ref l1,.int 0 0] }:=⟨_,rfl⟩
 obtain⟨H2,e2⟩:∃H2,H2=H1.push { cls:=.type "tuple_iterator",data:=.fields #[.ref l2,.int 0 0] }:=⟨_,rfl⟩
 obtain⟨H3,e3⟩:∃H3,H3=H2.push { cls:=.type "tuple",data:=.seq #[.ref s.heap.objs.size,.ref H1.objs.size] }:=⟨_,rfl⟩
 obtain⟨H4,e4⟩:∃H4,H4=H3.push { cls:=.type "tuple",data:=.seq #[.none,.none] }:=⟨_,rfl⟩
 have e5:zpT s.heap l1 l2=H4.push { cls:=.type "zip",data:=.fields #[.none,.bool false,.bool false,.ref H2.objs.size,.ref H3.objs.size] }:=by subst e4 e3 e2 e1;rfl
 have z1:H1.objs.size=s.heap.objs.size+1:=by rw [e1,Heap.size_push]
 have z2:H2.objs.size=s.heap.objs.size+2:=by rw [e2,Heap.size_push,z1]
 have z3:H3.objs.size=s.heap.objs.size+3:=by rw [e3,Heap.size_push,z2]
 have z4:H4.objs.size=s.heap.objs.size+4:=by rw [e4,Heap.size_push,z3]
 have g1:H1.get? s.heap.objs.size=some { cls:=.type "tuple_iterator",data:=.fields #[.ref l1,.int 0 0] }:=by rw [e1];exact Heap.get?_push_size _ rfl
 have g2:H2.get? H1.objs.size=some { cls:=.type "tuple_iterator",data:=.fields #[.ref l2,.int 0 0] }:=by rw [e2];exact Heap.get?_push_size _ rfl
 have g3:H3.get? H2.objs.size=some { cls:=.type "tuple",data:=.seq #[.ref s.heap.objs.size,.ref H1.objs.size] }:=by rw [e3];exact Heap.get?_push_size _ rfl
 have g4:H4.get? H3.objs.size=some { cls:=.type "tuple",data:=.seq #[.none,.none] }:=by rw [e4];exact Heap.get?_push_size _ rfl
 have u2:∀c o,H1.get? c=some o->H2.get? c=some o:=fun c o e=>by rw [e2];exact Heap.get?_push_of_some _ e
 have u3:∀c o,H2.get? c=some o->H3.get? c=some o:=fun c o e=>by rw [e3];exact Heap.get?_push_of_some _ e
 have u4:∀c o,H3.get? c=some o->H4.get? c=some o:=fun c o e=>by rw [e4];exact Heap.get?_push_of_some _ e
 have u5:∀c o,H4.get? c=some o->(zpT s.heap l1 l2).get? c=some o:=fun c o e=>by rw [e5];exact Heap.get?_push_of_some _ e
 have g5:(zpT s.heap l1 l2).get? H4.objs.size=some { cls:=.type "zip",data:=.fields #[.none,.bool false,.bool false,.ref H2.objs.size,.ref H3.objs.size] }:=by rw [e5];exact Heap.get?_push_size _ rfl
 have f1:=u5 _ _ (u4 _ _ (u3 _ _ (u2 _ _ g1)))
 have f2:=u5 _ _ (u4 _ _ (u3 _ _ g2))
 have f3:=u5 _ _ (u4 _ _ g3)
 have f4:=u5 _ _ g4
 rw [z4,z2,z3] at g5
 rw [z1] at f2
 rw [z2,z1] at f3
 rw [z3] at f4
 exact⟨⟨_,g5,rfl⟩,h _ g5 f3 f4 ⟨_,f1,rfl,rfl⟩ ⟨_,f2,rfl,rfl⟩ fun c o x=>u5 _ _ (u4 _ _ (u3 _ _ (u2 _ _ (by rw [e1];exact Heap.get?_push_of_some _ x))))⟩
end
def ItzT (K:W.Frag) (a b:Addr):It:=
 ⟨fun i H=>∃xs ys x y,SqT K H a xs∧SqT K H b ys∧xs[i]?=some x∧ys[i]?=some y,fun i H v H'=>∃p x y,H p=none∧v=.ref p∧H'=upd H p (.tup [x,y])∧(∀xs,SqT K H a xs->xs[i]?=some x)∧∀ys,SqT K H b ys->ys[i]?=some y,
  fun i H=>∃xs ys,SqT K H a xs∧SqT K H b ys∧(xs.length<=i∨ys.length<=i)⟩
theorem turn_zipT {P:Program} {w:World} {K:W.Frag} {elts:List Expr} {tk:Nat} {tpos:Pos} (a b z TI TO i1 i2:Addr) (D:ZipApart z TI TO i1 i2 a b):
  Turn P w K (.Tuple elts tk tpos) (ItzT K a b) [z,TI,TO,i1,i2] z (fun i h=>IsZip h z TI TO .none∧IsPair h TI (.ref i1) (.ref i2)∧(∃u v,IsPair h TO u v)∧h.IsTupleIter i1 a i∧h.IsTupleIter i2 b i) where
 mem:=by simp
 obj:=fun i h st c hb=>by
  obtain⟨hz,hTI,⟨u,v,hTO⟩,⟨o1,e1,c1,d1⟩,⟨o2,e2,c2,d2⟩⟩:=st
  simp only [List.mem_cons,List.not_mem_nil,or_false] at hb
  rcases hb with rfl | rfl | rfl | rfl | rfl
  ·exact⟨_,hz,fun v z=>by
    have z':Data.fields _=Data.cell v:=z
    cases z'⟩
  ·exact⟨_,hTI,fun v z=>by
    have z':Data.seq _=Data.cell v:=z
    cases z'⟩
  ·exact⟨_,hTO,fun v z=>by
    have z':Data.seq _=Data.cell v:=z
    cases z'⟩
  ·exact⟨o1,e1,fun v z=>by rw [d1] at z;cases z⟩
  ·exact⟨o2,e2,fun v z=>by rw [d2] at z;cases z⟩
 keep:=fun i h h' st k=>by
  obtain⟨hz,hTI,⟨u,v,hTO⟩,h1,h2⟩:=st
  exact⟨k z (by simp) _ hz,k TI (by simp) _ hTI,⟨u,v,k TO (by simp) _ hTO⟩,h1.at fun o q=>k i1 (by simp) o q,h2.at fun o q=>k i2 (by simp) o q⟩
 item:=by
  intro X hP hw hK hc i pins s σ H E I hf st hg
  subst hP hw hK
  obtain⟨xs,ys,x,y,hq1,hq2,hx,hy⟩:=hg
  obtain⟨its1,rv1,pl1,hz1⟩:=I.tuple hq1
  obtain⟨its2,rv2,pl2,hz2⟩:=I.tuple hq2
  obtain⟨u1,hu1,ru1⟩:=rv1.get hx
  obtain⟨u2,hu2,ru2⟩:=rv2.get hy
  obtain⟨hz,hTI,⟨_,_,hTO⟩,hit1,hit2⟩:=st
  refine pyNext_zipT D hz hTI hTO hit1 hit2 pl1 pl2 (x:=u1) (y:=u2) (by simpa using hu1) (by simpa using hu2) fun h1 ho hTO1 hi1 hi2 hT hk'=>?_
  have hk:∀c o,c≠z->c≠TO->c≠i1->c≠i2->s.heap.get? c=some o->h1.get? c=some o:=fun c o n1 n2 n3 n4 e=>hk' c o (by simp [n1,n2,n3,n4]) e
  refine⟨_,rfl,wpAny_letOwnedTupleGo_zip ho fun h2 he2 hs2=>?_⟩
  have hp:H s.heap.objs.size=none:=I.hok.fresh (Nat.le_refl _)
  have hpz:s.heap.objs.size≠z:=Nat.ne_of_gt (Heap.lt_size hz)
  have k2:∀c o,c∉[z,TI,TO,i1,i2]->s.heap.get? c=some o->h2.get? c=some o:=fun c o hb q=>
   (hs2.2 c fun e=>hb (by simp [e])).trans (hk c o (fun e=>hb (by simp [e])) (fun e=>hb (by simp [e])) (fun e=>hb (by simp [e])) (fun e=>hb (by simp [e])) q)
  have hT2:h2.get? s.heap.objs.size=some { cls:=.type "tuple",data:=.seq #[u1,u2] }:=(hs2.2 _ hpz).trans hT
  have nch:∀c u,H c=some u->c∉[z,TI,TO,i1,i2]:=fun c u q hb=>by
   rw [(hf c hb).1] at q;cases q
  have up:∀c,c < s.heap.objs.size->c≠s.heap.objs.size:=fun c hb=>Nat.ne_of_lt hb
  have I2:Inv X pins σ (upd H s.heap.objs.size (.tup [x,y])) { s with heap:=h2 }:=by
   refine I.step (g':=s.gens) (d':=s.drawn) (t':=s.toks) (ch:=[z,TI,TO,i1,i2]) (fun c hb=>?_) (fun c o _ _ hc q _=>k2 c o hc q) (fun c o _ _ hc q _=>⟨o.slots,k2 c o hc q⟩)
    (fun c o _ q n=>by rw [upd_ne (up c (Heap.lt_size q))];exact n) (fun c o hc q=>⟨o,k2 c o hc q⟩) (fun c ys q=>by rw [upd_ne (ne_of_none q hp)];exact q) (fun c o v q=>by rw [upd_ne (ne_of_none q hp)];exact q)
    (fun c ps q=>⟨#[],by rw [upd_ne (ne_of_none q hp),q];simp⟩) (fun m hm=>?_) (fun c v q=>?_) I.bare
   ·obtain⟨f0,f1,f2,f3,f4,f5⟩:=hf c hb
    exact⟨f3,f1,f4,f5⟩
   ·obtain⟨o,es,ep,q,r⟩:=hm
    refine⟨o,es,ep,k2 _ o (fun e=>?_) q,r⟩
    exact (hf _ e).2.1 rfl
   ·by_cases hb:c=s.heap.objs.size
    ·subst hb
     rw [upd_same] at q;cases q
     exact⟨by show 2<=sizeLine;decide,[u1,u2],.cons ru1 (.cons ru2 .nil),⟨_,hT2,rfl,_,rfl⟩⟩
    ·rw [upd_ne hb] at q
     refine (I.hok c v q).stay (fun c' o hc r=>k2 c' o ?_ r) (fun c' r=>by rw [upd_ne (ne_of_none r hp)];exact r) fun c' ys r=>by rw [upd_ne (ne_of_none r hp)];exact r
     rcases hc with e | e
     ·rw [e];exact nch c v q
     ·exact nch c' _ e
  refine⟨.ref s.heap.objs.size,_,I2,rfl,⟨_,x,y,hp,rfl,rfl,fun zs hz'=>by rw [I.tuple_inj hz' hq1];exact hx,fun zs hz'=>by rw [I.tuple_inj hz' hq2];exact hy⟩,
   ⟨he2,(hs2.2 TI D.TIz).trans (hk TI _ D.TIz D.TITO D.TIi1 D.TIi2 hTI),⟨_,_,(hs2.2 TO D.TOz).trans hTO1⟩,hi1.at fun o q=>(hs2.2 i1 D.i1z).trans q,hi2.at fun o q=>(hs2.2 i2 D.i2z).trans q⟩,fun c hb=>?_⟩
  have lb:c < s.heap.objs.size:=by
   simp only [List.mem_cons,List.not_mem_nil,or_false] at hb
   rcases hb with rfl | rfl | rfl | rfl | rfl
   ·exact Heap.lt_size hz
   ·exact Heap.lt_size hTI
   ·exact Heap.lt_size hTO
   ·obtain⟨_,q,_⟩:=hit1;exact Heap.lt_size q
   ·obtain⟨_,q,_⟩:=hit2;exact Heap.lt_size q
  rw [upd_ne (up c lb)]
  exact (hf c hb).1
 done:=by
  intro X hP hw hK hc i pins s σ H E I hf st hg
  subst hP hw hK
  obtain⟨xs,ys,hq1,hq2,hx⟩:=hg
  obtain⟨its1,rv1,pl1,hz1⟩:=I.tuple hq1
  obtain⟨its2,rv2,pl2,hz2⟩:=I.tuple hq2
  obtain⟨hz,hTI,⟨_,_,hTO⟩,hit1,hit2⟩:=st
  have hl1:=rv1.length
  have hl2:=rv2.length
  refine pyNext_zipTEnd (I.ok.hd hc) D hz hTI hTO hit1 hit2 pl1 pl2 (by rcases hx with e | e;exact .inl (by simp;omega);exact .inr (by simp;omega)) fun h' eb'=>⟨rfl,?_⟩
  have eb:∀c o,c≠z->c≠TO->c≠i1->c≠i2->s.heap.get? c=some o->h'.get? c=some o:=fun c o n1 n2 n3 n4 e=>eb' c o (by simp [n1,n2,n3,n4]) e
  have k2:∀c o,c∉[z,TI,TO,i1,i2]->s.heap.get? c=some o->h'.get? c=some o:=fun c o hb q=>eb c o (fun e=>hb (by simp [e])) (fun e=>hb (by simp [e])) (fun e=>hb (by simp [e])) (fun e=>hb (by simp [e])) q
  refine I.step (g':=s.gens) (d':=s.drawn) (t':=s.toks) (ch:=[z,TI,TO,i1,i2]) (fun c hb=>?_) (fun c o _ _ hc q _=>k2 c o hc q) (fun c o _ _ hc q _=>⟨o.slots,k2 c o hc q⟩)
   (fun c o _ q n=>n) (fun c o hc q=>⟨o,k2 c o hc q⟩) (fun c ys q=>q) (fun c o v q=>q) (fun c ps q=>⟨#[],by rw [q];simp⟩) (fun m hm=>?_) (fun c v q=>?_) I.bare
  ·obtain⟨f0,f1,f2,f3,f4,f5⟩:=hf c hb
   exact⟨f3,f1,f4,f5⟩
  ·obtain⟨o,es,ep,q,r⟩:=hm
   exact⟨o,es,ep,k2 _ o (fun e=>(hf _ e).2.1 rfl) q,r⟩
  ·refine (I.hok c v q).stay (fun c' o hc r=>k2 c' o ?_ r) (fun c' r=>r) fun c' ys r=>r
   have nch:∀c u,H c=some u->c∉[z,TI,TO,i1,i2]:=fun c u q hb=>by
    rw [(hf c hb).1] at q;cases q
   rcases hc with e | e
   ·rw [e];exact nch c v q
   ·exact nch c' _ e
 self:=fun _ _ _ _ _ st h=>wpAny_pyIter_zip st.1 h
section
variable {X:Cx}
def iZipB (K:W.Frag) (ta:TA):TI:=fun σ H R=>ta σ H fun vs H1=>∃a b xs ys,vs=[.ref a,.ref b]∧((SqL K H1 a xs∧SqL K H1 b ys∧R (Itz K a b) H1)∨(SqT K H1 a xs∧SqT K H1 b ys∧R (ItzT K a b) H1))
theorem a_izipB {K:W.Frag} {ta:TA} {σ:St} {H:Hp} {R:It->Hp->Prop}:iZipB K ta σ H R=ta σ H fun vs H1=>∃a b xs ys,vs=[.ref a,.ref b]∧((SqL K H1 a xs∧SqL K H1 b ys∧R (Itz K a b) H1)∨(SqT K H1 a xs∧SqT K H1 b ys∧R (ItzT K a b) H1)):=rfl
theorem pi_zipB {elts:List Expr} {tk:Nat} {tpos:Pos} {a b:Expr} {ta:TA} {p pos:Pos} (hg:Gl X "zip") (hm:X.mg "zip" = none) (ha:PA X [a,b] ta) (hs:starEach [a,b] X.env=[(false,eval a X.env),(false,eval b X.env)]:=by rfl)
  (hs2:starEach [b] X.env=[(false,eval b X.env)]:=by rfl):
  PI X (.Tuple elts tk tpos) (.Call (.Name "zip" p) [a,b] [] pos) (iZipB X.K ta):=by
 intro pins s σ H R I h
 refine Call_ (ld_blt I hg hm boot_zip (PyProof.Rows.callWith_type1 (thn (ha pos pins s σ H _ I h) fun us s1 ⟨vs,H1,I1,r1,q1⟩=>?_) (by rw [hs,hs2]) (by rw [hs2];rfl)))
 obtain⟨a,b,xs,ys,e,q1⟩:=q1
 subst e
 cases r1 with
 | cons r rr=>
  cases rr with
  | cons r' rr=>
  cases rr
  cases r
  cases r'
  have fr:∀c,c∈[s1.heap.objs.size+4,s1.heap.objs.size+2,s1.heap.objs.size+3,s1.heap.objs.size,s1.heap.objs.size+1]->s1.heap.objs.size<=c:=fun c hb=>by
   simp only [List.mem_cons,List.not_mem_nil,or_false] at hb
   rcases hb with rfl | rfl | rfl | rfl | rfl <;> omega
  rcases q1 with ⟨hq1,hq2,q⟩ | ⟨hq1,hq2,q⟩
  ·obtain⟨its1,rv1,pl1,hz1⟩:=I1.list hq1
   obtain⟨its2,rv2,pl2,hz2⟩:=I1.list hq2
   have a1:a < s1.heap.objs.size:=by obtain⟨_,e,_⟩:=pl1.isList;exact Heap.lt_size e
   have a2:b < s1.heap.objs.size:=by obtain⟨_,e,_⟩:=pl2.isList;exact Heap.lt_size e
   refine call_zip_2 pl1.isList pl2.isList fun h1 hz hTI hTO hi1 hi2 hsz hk=>wpAny_pyIter_zip hz ?_
   exact⟨_,_,_,_,H1,rfl,I1.kept (t':=s1.toks) hk,turn_zip a b _ _ _ _ _ (zipApart_new a1 a2),⟨hz,hTI,⟨_,_,hTO⟩,hi1,hi2⟩,fun c hb=>I1.fpOk (fr c hb) (I1.hok.fresh (fr c hb)),q⟩
  ·obtain⟨its1,rv1,pl1,hz1⟩:=I1.tuple hq1
   obtain⟨its2,rv2,pl2,hz2⟩:=I1.tuple hq2
   have a1:a < s1.heap.objs.size:=by obtain⟨_,e,_⟩:=pl1;exact Heap.lt_size e
   have a2:b < s1.heap.objs.size:=by obtain⟨_,e,_⟩:=pl2;exact Heap.lt_size e
   refine call_zipT pl1 pl2 fun h1 hz hTI hTO hi1 hi2 hk=>wpAny_pyIter_zip hz ?_
   exact⟨_,_,_,_,H1,rfl,I1.kept (t':=s1.toks) hk,turn_zipT a b _ _ _ _ _ (zipApart_new a1 a2),⟨hz,hTI,⟨_,_,hTO⟩,hi1,hi2⟩,fun c hb=>I1.fpOk (fr c hb) (I1.hok.fresh (fr c hb)),q⟩
end
theorem lp_zipT {K:W.Frag} {a b:Addr} {xs ys:List V} {g:TG} {tb:TS} {D:Ends} {σ:St} {H:Hp} (Pv:Nat->St->Hp->Prop) (h0:Pv 0 σ H) (hl:∀i σ H,i<=xs.length->i<=ys.length->Pv i σ H->SqT K H a xs∧SqT K H b ys)
  (hs:∀i v1 v2 p σ H,xs[i]?=some v1->ys[i]?=some v2->Pv i σ H->H p=none->g (.ref p) σ (upd H p (.tup [v1,v2])) fun σ2 H2=>tb { D with nx:=Pv (i+1),ct:=Pv (i+1),bk:=D.nx } σ2 H2)
  (hd:∀σ H,Pv (min xs.length ys.length) σ H->D.nx σ H):Loop (ItzT K a b) g tb D σ H:=by
 refine⟨fun i m σ H=>m=min xs.length ys.length - i∧i<=min xs.length ys.length∧Pv i σ H,⟨_,rfl,Nat.zero_le _,h0⟩,?_⟩
 rintro i m σ H ⟨rfl,hi,p⟩
 obtain⟨q1,q2⟩:=hl i σ H (by omega) (by omega) p
 by_cases hlt:i < min xs.length ys.length
 ·have l1:i < xs.length:=by omega
  have l2:i < ys.length:=by omega
  refine .inr ⟨⟨xs,ys,xs[i],ys[i],q1,q2,List.getElem?_eq_getElem l1,List.getElem?_eq_getElem l2⟩,Pv (i+1),fun σ' H' p'=>⟨min xs.length ys.length - (i+1),by omega,rfl,hlt,p'⟩,fun x H' y=>?_⟩
  obtain⟨pa,x1,x2,hn,e1,e2,y1,y2⟩:=y
  subst e1 e2
  exact hs i x1 x2 pa σ H (y1 xs q1) (y2 ys q2) p hn
 ·have e:i=min xs.length ys.length:=by omega
  rw [e] at p
  exact .inl ⟨⟨xs,ys,q1,q2,by omega⟩,hd σ H p⟩
abbrev IsTrip (h:Heap) (T:Addr) (a b c:Value):Prop:=h.get? T=some { cls:=.type "tuple",data:=.seq #[a,b,c] }
structure Zip3 (z TI TO i1 i2 i3 l1 l2 l3:Addr):Prop where
 TIz:TI≠z
 TOz:TO≠z
 i1z:i1≠z
 i2z:i2≠z
 i3z:i3≠z
 TITO:TI≠TO
 TIi1:TI≠i1
 TIi2:TI≠i2
 TIi3:TI≠i3
 TOi1:TO≠i1
 TOi2:TO≠i2
 TOi3:TO≠i3
 i12:i1≠i2
 i13:i1≠i3
 i23:i2≠i3
 l1z:l1≠z
 l2z:l2≠z
 l3z:l3≠z
 l2TO:l2≠TO
 l3TO:l3≠TO
 l2i1:l2≠i1
 l3i1:l3≠i1
 l3i2:l3≠i2
theorem zip3_new {n l1 l2 l3:Addr} (h1:l1 < n) (h2:l2 < n) (h3:l3 < n):Zip3 (n+5) (n+3) (n+4) n (n+1) (n+2) l1 l2 l3:=by
 constructor <;> (intro h;have h':(_:Nat)=(_:Nat):=h;simp only [Addr] at *;omega)
section
variable {prog:Program} {w:World} {A:Around} {E:Value->Shared->Prop} {s:Shared}
theorem updateSeq_trip {T:Addr} {a b c x:Value} {k:Nat} {Q:Unit->Shared->Prop} (hT:IsTrip s.heap T a b c)
  (h:∀h',h'.get? T=some { cls:=.type "tuple",data:=.seq ((#[a,b,c]:Array Value).setIfInBounds k x) }->Heap.SameBut T s.heap h'->Q () { s with heap:=h' }):
  wpAny (model prog w) A (updateSeq T (·.setIfInBounds k x)) Q E s:=by
 refine wpAny_updateSeq hT rfl (h _ ?_ (Heap.SameBut.update ..))
 rw [Heap.get?_update_self _ hT rfl]
 simp [Obj.mapSeq]
theorem zip3_item {z TI TO i1 i2 i3 l1 l2 l3:Addr} {k:Nat} {xs ys zs:Array Value} {x y v a b c:Value} {Q:Value->Shared->Prop} (D:Zip3 z TI TO i1 i2 i3 l1 l2 l3)
  (hz:IsZip s.heap z TI TO .none) (hTI:IsTrip s.heap TI (.ref i1) (.ref i2) (.ref i3)) (hTO:IsTrip s.heap TO a b c) (h1:s.heap.IsTupleIter i1 l1 k) (h2:s.heap.IsTupleIter i2 l2 k) (h3:s.heap.IsTupleIter i3 l3 k)
  (t1:s.heap.IsTuple l1 xs) (t2:s.heap.IsTuple l2 ys) (t3:s.heap.IsTuple l3 zs) (hx:xs[k]?=some x) (hy:ys[k]?=some y) (hv:zs[k]?=some v)
  (hQ:∀h',IsZip h' z TI TO (rawInt s.heap.objs.size)->IsTrip h' TO x y v->h'.IsTupleIter i1 l1 (k+1)->h'.IsTupleIter i2 l2 (k+1)->h'.IsTupleIter i3 l3 (k+1)->IsTrip h' s.heap.objs.size x y v->
   (∀c o,c∉[z,TO,i1,i2,i3]->s.heap.get? c=some o->h'.get? c=some o)->Q (.ref s.heap.objs.size) { s with heap:=h' }):
  wpAny (model prog w) A (Builtin.«zip.__next__» ⟨[.ref z],[]⟩) (fun fin s'=>∃v,fin=.done (.ret v)∧Q v s') E s:=by
 refine wpAny_bind (m:=field (.ref z) 2) (wpAny_field hz rfl (x:=.bool false) rfl ?_)
 refine wpAny_bind (m:=field (.ref z) 3) (wpAny_field hz rfl (x:=.ref TI) rfl (wpAny_bind (wpAny_seqItems hTI rfl ?_)))
 refine wpAny_bind (m:=Builtin.SmallTypes.ownedTupleIsFree (.ref z)) (wpAny_bind (m:=field (.ref z) 0) (wpAny_field hz rfl (x:=.none) rfl (wpAny_pure ?_)))
 simp only [if_true]
 refine wpAny_bind (wpAny_rule (wpAny_bind (wpAny_field hz rfl (x:=.ref TO) rfl (wpAny_bind (wpAny_setField_rec hz (by simp) fun g₁ z₁ c₁=>wpAny_bind ?_)))))
 replace z₁:IsZip g₁ z TI TO .ellipsis:=z₁
 simp only [List.zipIdx_cons,List.zipIdx_nil,List.forIn_cons,List.forIn_nil]
 have b₁:=c₁.extBut
 refine wpAny_bind (wpAny_bind (wpAny_onRaise (wpAny_bind (m:=Builtin.SmallTypes.nextOf (.ref i1)) (nxT_item (h1.extBut b₁ D.i1z) (t1.extBut b₁ D.l1z) hx fun g₂ j₂ c₂=>wpAny_pure ?_))))
 have b₂:=c₂.extBut
 have o₂:IsTrip g₂ TO a b c:=b₂ _ _ D.TOi1 (b₁ _ _ D.TOz hTO)
 refine wpAny_bind (wpAny_seqItems o₂ rfl (wpAny_bind (updateSeq_trip o₂ fun g₃ o₃ c₃=>wpAny_bind (wpAny_letGo (wpAny_pure ?_)))))
 replace o₃:IsTrip g₃ TO x b c:=o₃
 have b₃:=c₃.extBut
 have e2:∀c o,c≠z->c≠i1->c≠TO->s.heap.get? c=some o->g₃.get? c=some o:=fun c o n1 n2 n3 e=>b₃ _ _ n3 (b₂ _ _ n2 (b₁ _ _ n1 e))
 refine wpAny_bind (wpAny_bind (wpAny_onRaise (wpAny_bind (m:=Builtin.SmallTypes.nextOf (.ref i2)) (nxT_item (s:={ s with heap:=g₃ }) (h2.at fun o e=>e2 _ o D.i2z D.i12.symm D.TOi2.symm e) (t2.at fun o e=>e2 _ o D.l2z D.l2i1 D.l2TO e) hy fun g₄ j₄ c₄=>wpAny_pure ?_))))
 have b₄:=c₄.extBut
 have o₄:IsTrip g₄ TO x b c:=b₄ _ _ D.TOi2 o₃
 refine wpAny_bind (wpAny_seqItems o₄ rfl (wpAny_bind (updateSeq_trip o₄ fun g₅ o₅ c₅=>wpAny_bind (wpAny_letGo (wpAny_pure ?_)))))
 replace o₅:IsTrip g₅ TO x y c:=o₅
 have b₅:=c₅.extBut
 have e3:∀c o,c≠z->c≠i1->c≠TO->c≠i2->s.heap.get? c=some o->g₅.get? c=some o:=fun c o n1 n2 n3 n4 e=>b₅ _ _ n3 (b₄ _ _ n4 (e2 c o n1 n2 n3 e))
 refine wpAny_bind (wpAny_bind (wpAny_onRaise (wpAny_bind (m:=Builtin.SmallTypes.nextOf (.ref i3)) (nxT_item (s:={ s with heap:=g₅ }) (h3.at fun o e=>e3 _ o D.i3z D.i13.symm D.TOi3.symm D.i23.symm e) (t3.at fun o e=>e3 _ o D.l3z D.l3i1 D.l3TO D.l3i2 e) hv fun g₆ j₆ c₆=>wpAny_pure ?_))))
 have b₆:=c₆.extBut
 have o₆:IsTrip g₆ TO x y c:=b₆ _ _ D.TOi3 o₅
 refine wpAny_bind (wpAny_seqItems o₆ rfl (wpAny_bind (updateSeq_trip o₆ fun g₇ o₇ c₇=>wpAny_bind (wpAny_letGo (wpAny_pure (wpAny_pure (wpAny_bind ?_)))))))
 replace o₇:IsTrip g₇ TO x y v:=o₇
 have b₇:=c₇.extBut
 refine wpAny_seqItems o₇ rfl (wpAny_bind (wpAny_newTuple ?_))
 have sz:g₇.objs.size=s.heap.objs.size:=by rw [c₇.1,c₆.1,c₅.1,c₄.1,c₃.1,c₂.1,c₁.1]
 have z₇:IsZip g₇ z TI TO .ellipsis:=b₇ _ _ D.TOz.symm (b₆ _ _ D.i3z.symm (b₅ _ _ D.TOz.symm (b₄ _ _ D.i2z.symm (b₃ _ _ D.TOz.symm (b₂ _ _ D.i1z.symm z₁)))))
 have j₁:g₇.IsTupleIter i1 l1 (k+1):=j₂.at fun o e=>b₇ _ _ D.TOi1.symm (b₆ _ _ D.i13 (b₅ _ _ D.TOi1.symm (b₄ _ _ D.i12 (b₃ _ _ D.TOi1.symm e))))
 have j₅:g₇.IsTupleIter i2 l2 (k+1):=j₄.at fun o e=>b₇ _ _ D.TOi2.symm (b₆ _ _ D.i23 (b₅ _ _ D.TOi2.symm e))
 have j₇:g₇.IsTupleIter i3 l3 (k+1):=j₆.at fun o e=>b₇ _ _ D.TOi3.symm e
 have lz:z < g₇.objs.size:=Heap.lt_size z₇
 refine wpAny_bind (m:=Builtin.SmallTypes.ownedTupleHandOut (.ref z) (.ref g₇.objs.size)) (wpAny_bind (wpAny_setField_rec (Heap.get?_push_of_some _ z₇) (by simp) fun g₈ z₈ c₈=>?_))
 replace z₈:IsZip g₈ z TI TO (rawInt g₇.objs.size):=z₈
 refine wpAny_setField_rec z₈ (by simp) fun g₉ z₉ c₉=>?_
 replace z₉:IsZip g₉ z TI TO (rawInt g₇.objs.size):=z₉
 have up:∀c o,c≠z->(g₇.push { cls:=.type "tuple",data:=.seq #[x,y,v] }).get? c=some o->g₉.get? c=some o:=fun c o n e=>c₉.extBut _ _ n (c₈.extBut _ _ n e)
 have T₉:IsTrip g₉ g₇.objs.size x y v:=up _ _ (Nat.ne_of_gt lz) (Heap.get?_push_size _ rfl)
 have up7:∀c o,c≠z->g₇.get? c=some o->g₉.get? c=some o:=fun c o n e=>up c o n (Heap.get?_push_of_some _ e)
 refine wpAny_pure ⟨_,rfl,?_⟩
 show Q (.ref g₇.objs.size) _
 rw [sz] at z₉ T₉ ⊢
 refine hQ g₉ z₉ (up7 _ _ D.TOz o₇) (j₁.at fun o e=>up7 _ o D.i1z e) (j₅.at fun o e=>up7 _ o D.i2z e) (j₇.at fun o e=>up7 _ o D.i3z e) T₉ fun c o hc e=>?_
 have n1:c≠z:=fun h=>hc (by simp [h])
 have n2:c≠TO:=fun h=>hc (by simp [h])
 have n3:c≠i1:=fun h=>hc (by simp [h])
 have n4:c≠i2:=fun h=>hc (by simp [h])
 have n5:c≠i3:=fun h=>hc (by simp [h])
 exact up7 c o n1 (b₇ _ _ n2 (b₆ _ _ n5 (e3 c o n1 n3 n2 n4 e)))
theorem zip3_end {z TI TO i1 i2 i3 l1 l2 l3:Addr} {k:Nat} {xs:Array Value} {a b c:Value} {Q:Fin->Shared->Prop} (hh:A.handled=none) (D:Zip3 z TI TO i1 i2 i3 l1 l2 l3)
  (hz:IsZip s.heap z TI TO .none) (hTI:IsTrip s.heap TI (.ref i1) (.ref i2) (.ref i3)) (h1:s.heap.IsTupleIter i1 l1 k) (t1:s.heap.IsTuple l1 xs) (hx:xs[k]?=none)
  (hE:∀h' e,(∀c o,c∉[z,TO,i1,i2,i3]->s.heap.get? c=some o->h'.get? c=some o)->(∃o,h'.get? e=some o∧o.cls=.type "StopIteration")->E (.ref e) { s with heap:=h' }):
  wpAny (model prog w) A (Builtin.«zip.__next__» ⟨[.ref z],[]⟩) Q E s:=by
 refine wpAny_bind (m:=field (.ref z) 2) (wpAny_field hz rfl (x:=.bool false) rfl ?_)
 refine wpAny_bind (m:=field (.ref z) 3) (wpAny_field hz rfl (x:=.ref TI) rfl (wpAny_bind (wpAny_seqItems hTI rfl ?_)))
 refine wpAny_bind (m:=Builtin.SmallTypes.ownedTupleIsFree (.ref z)) (wpAny_bind (m:=field (.ref z) 0) (wpAny_field hz rfl (x:=.none) rfl (wpAny_pure ?_)))
 simp only [if_true]
 refine wpAny_bind (wpAny_rule (wpAny_bind (wpAny_field hz rfl (x:=.ref TO) rfl (wpAny_bind (wpAny_setField_rec hz (by simp) fun g₁ z₁ c₁=>wpAny_bind ?_)))))
 replace z₁:IsZip g₁ z TI TO .ellipsis:=z₁
 simp only [List.zipIdx_cons,List.zipIdx_nil,List.forIn_cons,List.forIn_nil]
 have b₁:=c₁.extBut
 have nz:∀{g:Heap} {e:Addr} {o:Obj},IsZip g z TI TO .ellipsis->g.get? e=some o->o.cls=.type "StopIteration" -> e≠z:=fun {g e o} q r c h=>by
  subst h
  rw [q] at r;cases r;simp at c
 refine wpAny_bind (wpAny_bind (wpAny_onRaise (wpAny_bind (m:=Builtin.SmallTypes.nextOf (.ref i1)) (nxT_end hh (h1.extBut b₁ D.i1z) (t1.extBut b₁ D.l1z) hx fun g₂ e b₂ ⟨oe,he,ce⟩=>?_))))
 have z₂:IsZip g₂ z TI TO .ellipsis:=b₂ _ _ D.i1z.symm z₁
 refine wpAny_setField_rec z₂ (by simp) fun g₃ _ c₃=>hE g₃ e (fun c o hc q=>?_) ⟨oe,c₃.extBut _ _ (nz z₂ he ce) he,ce⟩
 exact c₃.extBut _ _ (fun h=>hc (by simp [h])) (b₂ _ _ (fun h=>hc (by simp [h])) (b₁ _ _ (fun h=>hc (by simp [h])) q))
theorem pyNext_zip3 {z TI TO i1 i2 i3 l1 l2 l3:Addr} {k:Nat} {xs ys zs:Array Value} {x y v a b c:Value} {Q:Option Value->Shared->Prop} (D:Zip3 z TI TO i1 i2 i3 l1 l2 l3)
  (hz:IsZip s.heap z TI TO .none) (hTI:IsTrip s.heap TI (.ref i1) (.ref i2) (.ref i3)) (hTO:IsTrip s.heap TO a b c) (h1:s.heap.IsTupleIter i1 l1 k) (h2:s.heap.IsTupleIter i2 l2 k) (h3:s.heap.IsTupleIter i3 l3 k)
  (t1:s.heap.IsTuple l1 xs) (t2:s.heap.IsTuple l2 ys) (t3:s.heap.IsTuple l3 zs) (hx:xs[k]?=some x) (hy:ys[k]?=some y) (hv:zs[k]?=some v)
  (hQ:∀h',IsZip h' z TI TO (rawInt s.heap.objs.size)->IsTrip h' TO x y v->h'.IsTupleIter i1 l1 (k+1)->h'.IsTupleIter i2 l2 (k+1)->h'.IsTupleIter i3 l3 (k+1)->IsTrip h' s.heap.objs.size x y v->
   (∀c o,c∉[z,TO,i1,i2,i3]->s.heap.get? c=some o->h'.get? c=some o)->Q (some (.ref s.heap.objs.size)) { s with heap:=h' }):wpAny (model prog w) A (pyNext (.ref z)) Q E s:=by
 have hT:s.TypeIs (.ref z) "zip" := ⟨_,hz,rfl⟩
 exact wpAny_bind (wpAny_attempt (wpAny_callSpecial?_slot (name:=Str.ofString "__next__") hT F.slot_zip_next (wpAny_call_entry F.slot_zip_next hT F.entry_zip_next
  (zip3_item D hz hTI hTO h1 h2 h3 t1 t2 t3 hx hy hv fun h' a1 a2 a3 a4 a5 a6 a7=>wpAny_pure (hQ h' a1 a2 a3 a4 a5 a6 a7)) (F.args_zip_next_1 _))))
theorem pyNext_zip3End {z TI TO i1 i2 i3 l1 l2 l3:Addr} {k:Nat} {xs:Array Value} {Q:Option Value->Shared->Prop} (hh:A.handled=none) (D:Zip3 z TI TO i1 i2 i3 l1 l2 l3)
  (hz:IsZip s.heap z TI TO .none) (hTI:IsTrip s.heap TI (.ref i1) (.ref i2) (.ref i3)) (h1:s.heap.IsTupleIter i1 l1 k) (t1:s.heap.IsTuple l1 xs) (hx:xs[k]?=none)
  (hQ:∀h',(∀c o,c∉[z,TO,i1,i2,i3]->s.heap.get? c=some o->h'.get? c=some o)->Q none { s with heap:=h' }):wpAny (model prog w) A (pyNext (.ref z)) Q E s:=by
 have hT:s.TypeIs (.ref z) "zip" := ⟨_,hz,rfl⟩
 refine wpAny_bind (wpAny_attempt (wpAny_callSpecial?_slot (name:=Str.ofString "__next__") hT F.slot_zip_next (wpAny_call_entry F.slot_zip_next hT F.entry_zip_next (zip3_end (a:=.none) (b:=.none) (c:=.none) hh D hz hTI h1 t1 hx fun h' e hk ⟨o,ho,hc⟩=>?_) (F.args_zip_next_1 _))))
 exact wpAny_bind (wpAny_isInstance (T := "StopIteration") (b:=true) ⟨o,ho,hc⟩ isSubtype_stop (wpAny_pure (hQ _ hk)))
end
def zp3 (h:Heap) (a b c:Addr):Heap:=
 (((((h.push { cls:=.type "tuple_iterator",data:=.fields #[.ref a,.int 0 0] }).push { cls:=.type "tuple_iterator",data:=.fields #[.ref b,.int 0 0] }).push { cls:=.type "tuple_iterator",data:=.fields #[.ref c,.int 0 0] }).push
  { cls:=.type "tuple",data:=.seq #[.ref h.objs.size,.ref (h.push { cls:=.type "tuple_iterator",data:=.fields #[.ref a,.int 0 0] }).objs.size,.ref ((h.push { cls:=.type "tuple_iterator",data:=.fields #[.ref a,.int 0 0] }).push { cls:=.type "tuple_iterator",data:=.fields #[.ref b,.int 0 0] }).objs.size] }).push { cls:=.type "tuple",data:=.seq #[.none,.none,.none] }).push
  { cls:=.type "zip",data:=.fields #[.none,.bool false,.bool false,.ref (((h.push { cls:=.type "tuple_iterator",data:=.fields #[.ref a,.int 0 0] }).push { cls:=.type "tuple_iterator",data:=.fields #[.ref b,.int 0 0] }).push { cls:=.type "tuple_iterator",data:=.fields #[.ref c,.int 0 0] }).objs.size,
   .ref ((((h.push { cls:=.type "tuple_iterator",data:=.fields #[.ref a,.int 0 0] }).push { cls:=.type "tuple_iterator",data:=.fields #[.ref b,.int 0 0] }).push { cls:=.type "tuple_iterator",data:=.fields #[.ref c,.int 0 0] }).push { cls:=.type "tuple",data:=.seq #[.ref h.objs.size,.ref (h.push { cls:=.type "tuple_iterator",data:=.fields #[.ref a,.int 0 0] }).objs.size,.ref ((h.push { cls:=.type "tuple_iterator",data:=.fields #[.ref a,.int 0 0] }).push { cls:=.type "tuple_iterator",data:=.fields #[.ref b,.int 0 0] }).objs.size] }).objs.size] }
theorem zp3_size (h:Heap) (a b c:Addr):(zp3 h a b c).objs.size=h.objs.size+6:=by unfold zp3;rw [Heap.size_push,Heap.size_push,Heap.size_push,Heap.size_push,Heap.size_push,Heap.size_push]
theorem meets3 (l1 l2 l3:Addr) (xs ys zs:Array Value):Meets (Builtin.«zip.__new__» ⟨[.type "zip",.ref l1,.ref l2,.ref l3],[]⟩) (fun _ R s=>s.heap.IsTuple l1 xs∧s.heap.IsTuple l2 ys∧s.heap.IsTuple l3 zs∧R (.ok (.ret (.ref (s.heap.objs.size+5)))) { s with heap:=zp3 s.heap l1 l2 l3 }):=
 .of_wp fun prog w A R s h=>by
  obtain⟨hp,g,d,tk,os⟩:=s
  obtain⟨q1,q2,q3,h⟩:=h
  have hsub:=sub_zip
  have k1:Heap.IsTuple (Shared.heap ⟨hp,g,d,tk,os⟩) l1 xs:=q1
  have k2:Heap.IsTuple (Shared.heap ⟨hp.push { cls:=.type "tuple_iterator",data:=.fields #[.ref l1,.int 0 0] },g,d,tk,os⟩) l2 ys:=Heap.IsTuple.push q2 _
  have k3:Heap.IsTuple (Shared.heap ⟨(hp.push { cls:=.type "tuple_iterator",data:=.fields #[.ref l1,.int 0 0] }).push { cls:=.type "tuple_iterator",data:=.fields #[.ref l2,.int 0 0] },g,d,tk,os⟩) l3 zs:=Heap.IsTuple.push (Heap.IsTuple.push q3 _) _
  wp_walk using wpAny_pyIter_tuple k1,wpAny_pyIter_tuple k2,wpAny_pyIter_tuple k3
  refine⟨_,rfl,?_⟩
  have e:(zp3 hp l1 l2 l3).objs.size=hp.objs.size+6:=zp3_size hp l1 l2 l3
  unfold zp3 at e h
  rw [Heap.size_push] at e
  have e4:=Nat.succ.inj e
  rw [← e4] at h
  exact h
theorem tc_zip_3 (a b c:Value):checkTypeCall "zip" ⟨[a,b,c],[]⟩=pure ():=by kernel_rfl
theorem nc_zip_3 (a b c:Value):checkBuiltinCall "zip.__new__" ⟨[.type "zip",a,b,c],[]⟩=pure ():=by kernel_rfl
theorem ao_init_4 (a b c d:Value):argsOk "object.__init__" ⟨[a,b,c,d],[]⟩:=by
 unfold argsOk;rw [signature?_of (id := "object.__init__") (n:=['_','_','t','i','n','i','_','_']) (o:=['t','c','e','j','b','o']) (by kernel_rfl) F.owner_object];kernel_rfl
section
variable {prog:Program} {w:World} {A:Around} {E:Value->Shared->Prop} {s:Shared}
theorem call_zip3 {l1 l2 l3:Addr} {xs ys zs:Array Value} {Q:Value->Shared->Prop} (q1:s.heap.IsTuple l1 xs) (q2:s.heap.IsTuple l2 ys) (q3:s.heap.IsTuple l3 zs)
  (h:∀h',IsZip h' (s.heap.objs.size+5) (s.heap.objs.size+3) (s.heap.objs.size+4) .none->IsTrip h' (s.heap.objs.size+3) (.ref s.heap.objs.size) (.ref (s.heap.objs.size+1)) (.ref (s.heap.objs.size+2))->
   IsTrip h' (s.heap.objs.size+4) .none .none .none->h'.IsTupleIter s.heap.objs.size l1 0->h'.IsTupleIter (s.heap.objs.size+1) l2 0->h'.IsTupleIter (s.heap.objs.size+2) l3 0->(∀c o,s.heap.get? c=some o->h'.get? c=some o)->Q (.ref (s.heap.objs.size+5)) { s with heap:=h' }):
  wpAny (model prog w) A (call (.type "zip") [.ref l1,.ref l2,.ref l3]) Q E s:=by
 refine callType_new F.called_zip (by decide) (tc_zip_3 _ _ _) (nc_zip_3 _ _ _) (fun obj=>ao_init_4 obj _ _ _) F.entry_zip_new (meets3 l1 l2 l3 xs ys zs) ⟨q1,q2,q3,?_⟩
 obtain⟨H1,e1⟩:∃H1,H1=s.heap.push { cls:=.type "tuple_iterator",data:=.fields #[.ref l1,.int 0 0] }:=⟨_,rfl⟩
 obtain⟨H2,e2⟩:∃H2,H2=H1.push { cls:=.type "tuple_iterator",data:=.fields #[.ref l2,.int 0 0] }:=⟨_,rfl⟩
 obtain⟨H2',e2'⟩:∃H2',H2'=H2.push { cls:=.type "tuple_iterator",data:=.fields #[.ref l3,.int 0 0] }:=⟨_,rfl⟩
 obtain⟨H3,e3⟩:∃H3,H3=H2'.push { cls:=.type "tuple",data:=.seq #[.ref s.heap.objs.size,.ref H1.objs.size,.ref H2.objs.size] }:=⟨_,rfl⟩
 obtain⟨H4,e4⟩:∃H4,H4=H3.push { cls:=.type "tuple",data:=.seq #[.none,.none,.none] }:=⟨_,rfl⟩
 have e5:zp3 s.heap l1 l2 l3=H4.push { cls:=.type "zip",data:=.fields #[.none,.bool false,.bool false,.ref H2'.objs.size,.ref H3.objs.size] }:=by subst e4 e3 e2' e2 e1;rfl
 have z1:H1.objs.size=s.heap.objs.size+1:=by rw [e1,Heap.size_push]
 have z2:H2.objs.size=s.heap.objs.size+2:=by rw [e2,Heap.size_push,z1]
 have z2':H2'.objs.size=s.heap.objs.size+3:=by rw [e2',Heap.size_push,z2]
 have z3:H3.objs.size=s.heap.objs.size+4:=by rw [e3,Heap.size_push,z2']
 have z4:H4.objs.size=s.heap.objs.size+5:=by rw [e4,Heap.size_push,z3]
 have g1:H1.get? s.heap.objs.size=some { cls:=.type "tuple_iterator",data:=.fields #[.ref l1,.int 0 0] }:=by rw [e1];exact Heap.get?_push_size _ rfl
 have g2:H2.get? H1.objs.size=some { cls:=.type "tuple_iterator",data:=.fields #[.ref l2,.int 0 0] }:=by rw [e2];exact Heap.get?_push_size _ rfl
 have g2':H2'.get? H2.objs.size=some { cls:=.type "tuple_iterator",data:=.fields #[.ref l3,.int 0 0] }:=by rw [e2'];exact Heap.get?_push_size _ rfl
 have g3:H3.get? H2'.objs.size=some { cls:=.type "tuple",data:=.seq #[.ref s.heap.objs.size,.ref H1.objs.size,.ref H2.objs.size] }:=by rw [e3];exact Heap.get?_push_size _ rfl
 have g4:H4.get? H3.objs.size=some { cls:=.type "tuple",data:=.seq #[.none,.none,.none] }:=by rw [e4];exact Heap.get?_push_size _ rfl
 have u2:∀c o,H1.get? c=some o->H2.get? c=some o:=fun c o e=>by rw [e2];exact Heap.get?_push_of_some _ e
 have u2':∀c o,H2.get? c=some o->H2'.get? c=some o:=fun c o e=>by rw [e2'];exact Heap.get?_push_of_some _ e
 have u3:∀c o,H2'.get? c=some o->H3.get? c=some o:=fun c o e=>by rw [e3];exact Heap.get?_push_of_some _ e
 have u4:∀c o,H3.get? c=some o->H4.get? c=some o:=fun c o e=>by rw [e4];exact Heap.get?_push_of_some _ e
 have u5:∀c o,H4.get? c=some o->(zp3 s.heap l1 l2 l3).get? c=some o:=fun c o e=>by rw [e5];exact Heap.get?_push_of_some _ e
 have g5:(zp3 s.heap l1 l2 l3).get? H4.objs.size=some { cls:=.type "zip",data:=.fields #[.none,.bool false,.bool false,.ref H2'.objs.size,.ref H3.objs.size] }:=by rw [e5];exact Heap.get?_push_size _ rfl
 have f1:=u5 _ _ (u4 _ _ (u3 _ _ (u2' _ _ (u2 _ _ g1))))
 have f2:=u5 _ _ (u4 _ _ (u3 _ _ (u2' _ _ g2)))
 have f2':=u5 _ _ (u4 _ _ (u3 _ _ g2'))
 have f3:=u5 _ _ (u4 _ _ g3)
 have f4:=u5 _ _ g4
 rw [z4,z2',z3] at g5
 rw [z1] at f2
 rw [z2] at f2'
 rw [z2',z1,z2] at f3
 rw [z3] at f4
 exact⟨⟨_,g5,rfl⟩,h _ g5 f3 f4 ⟨_,f1,rfl,rfl⟩ ⟨_,f2,rfl,rfl⟩ ⟨_,f2',rfl,rfl⟩ fun c o x=>u5 _ _ (u4 _ _ (u3 _ _ (u2' _ _ (u2 _ _ (by rw [e1];exact Heap.get?_push_of_some _ x)))))⟩
end
@[reducible] def blk3 (X:Cx) (x z z3:Str) (fv:List (Nat×Str)) (scope:Scope) (cl:List (Str×Addr)) (C:Addr) (s:Shared) (H:Hp) (fp:List Addr):Cx where
 prog:=X.prog
 w:=X.w
 K:=X.K
 mg:=X.mg
 base:=X.base
 A:=X.A
 N:=x :: z :: z3 :: fv.map (·.2)
 s₀:=s
 H₀:=H
 env:=compEnvC scope cl C X.env
 outer:=X.stack
 stack:=X.stack
 ex:=fp
 fn:=fun _=>false
 calm:=X.calm
 pn:=[]
 xe:=fun _ _=>False
def bst3 (fv:List (Nat×Str)) (σ:St) (v v2 v3:Option V):St:=v :: v2 :: v3 :: fv.map fun p=>(σ[p.1]?).getD none
structure BlkOk3 (X:Cx) (x z z3:Str) (fv:List (Nat×Str)) (scope:Scope) (cl:List (Str×Addr)):Prop where
 clos:closureFor scope X.env=pure cl
 nocell:∀y∈scope.names,y.2≠.cell
 kind:scope.kind=.function
 names:∀y∈scope.names,y.2=.local->scope.names.lookup y.1=some .local
 here:scope.names.lookup x=some .local
 here2:scope.names.lookup z=some .local
 here3:scope.names.lookup z3=some .local
 nd:(x :: z :: z3 :: fv.map (·.2)).Nodup
 sub:∀y c,cl.lookup y=some c->X.env.cells.lookup y=some c
 has:∀y,((relabel scope X.env).names.lookup y=some .cell∨(relabel scope X.env).names.lookup y=some .free)->∃c,cl.lookup y=some c
 fvs:∀p∈fv,X.N[p.1]?=some p.2∧(X.env.scope.names.lookup p.2=some .cell∨X.env.scope.names.lookup p.2=some .free)∧
  ((relabel scope X.env).names.lookup p.2=some .cell∨(relabel scope X.env).names.lookup p.2=some .free)∧∃c,cl.lookup p.2=some c
section
variable {X:Cx} {elt iter:Expr} {x z z3:Str} {px pz p3:Pos} {tk:Nat} {tpos:Pos} {fv:List (Nat×Str)} {scope:Scope} {cl:List (Str×Addr)} {pos:Pos} {te:TE} {wi:TI}
theorem blk_ok3 {pins:List (Addr×Obj)} {σ:St} {H:Hp} {s:Shared} {fp:List Addr} {C:Addr} (B:BlkOk3 X x z z3 fv scope cl) (I:Inv X pins σ H s) (hf:∀b∈fp,FpOk X pins H b) (hC:s.heap.objs.size<=C) (hfC:∀b∈fp,b≠C):
  (blk3 X x z z3 fv scope cl C s H fp).Ok where
 mod:=I.ok.mod
 kind:=B.kind
 glob:=I.ok.glob
 blt:=I.ok.blt
 above:=hC
 inj:=fun y y' c h1 h2=>I.ok.inj y y' c (B.sub y c h1) (B.sub y' c h2)
 has:=fun y hy=>B.has y hy
 cab:=fun y c h=>nomatch h
 hd:=I.ok.hd
 frames:=I.ok.frames
 stk:=.inl rfl
 exf:=fun b hb=>⟨hfC b hb,fun y c e=>(hf b hb).2.2.2.2.1 y c (B.sub y c e)⟩
 bs:=I.bs
 bsz:=Nat.le_trans I.ok.bsz I.sz
 noex:=fun b o e hb=>by
  obtain⟨_,_,_,f3,_⟩:=hf b hb
  rcases f3 with z' | z'
  ·exact I.ok.noex b o e z'
  ·exact absurd (Nat.lt_of_lt_of_le (Heap.lt_size e) (Nat.le_trans I.ok.bsz z')) (Nat.lt_irrefl _)
 exfs:=fun b hb hs=>by
  obtain⟨_,f1,f2,_⟩:=hf b hb
  rcases List.mem_cons.mp (I.stkSub b hs) with z | z
  ·exact f1 z
  ·exact f2 z
 funs:=I.stack
 frf:=I.stkFree
theorem bst_get3 {fv:List (Nat×Str)} {σ:St} {o o2 o3:Option V} {j:Nat} {y:Str} {v:V} (h1:(x :: z :: z3 :: fv.map (·.2))[j+3]?=some y) (h2:(bst3 fv σ o o2 o3)[j+3]?=some (some v)):∃p∈fv,p.2=y∧σ[p.1]?=some (some v):=by
 have e1:(fv.map (·.2))[j]?=some y:=by simpa using h1
 have e2:(fv.map fun p=>(σ[p.1]?).getD none)[j]?=some (some v):=by simpa [bst3] using h2
 rw [List.getElem?_map] at e1 e2
 cases q:fv[j]? with
 | none=>rw [q] at e1;cases e1
 | some p=>
  rw [q] at e1 e2
  refine⟨p,List.mem_of_getElem? q,Option.some.inj e1,?_⟩
  have e3:(σ[p.1]?).getD none=some v:=Option.some.inj e2
  cases r:σ[p.1]? with
  | none=>rw [r] at e3;cases e3
  | some w=>rw [r] at e3;exact congrArg some e3
theorem blk_start3 {pins:List (Addr×Obj)} {σ:St} {H:Hp} {s s4:Shared} {fp:List Addr} {C:Addr} {m:Str->Option Value} (B:BlkOk3 X x z z3 fv scope cl) (I:Inv X pins σ H s) (hf:∀b∈fp,FpOk X pins H b) (hC:C=s.heap.objs.size)
  (hfC:∀b∈fp,b≠C) (os:s4.os=s.os) (gens:s4.gens=s.gens) (keep:∀b o,s.heap.get? b=some o->s4.heap.get? b=some o) (ns:s4.heap.Ns C m):
  Inv (blk3 X x z z3 fv scope cl C s H fp) [] (bst3 fv σ none none none) H s4:=by
 subst hC
 refine⟨blk_ok3 B I hf (Nat.le_refl _) hfC,os,by rw [gens];exact I.bare,Un.kept keep,⟨m,ns,fun i y v h1 h2 h3=>?_⟩,fun y c e=>?_,I.hok.fresh (Nat.le_refl _),fun y c e=>I.freeC y c (B.sub y c e),fun p hp=>absurd (show p∈([]:List (Addr×Obj)) from hp) (by simp),I.hok.kept keep,by simp [bst3]⟩
 ·cases i with
  | zero=>simp [bst3] at h2
  | succ j=>
   cases j with
   | zero=>simp [bst3] at h2
   | succ j=>
   cases j with
   | zero=>simp [bst3] at h2
   | succ j=>
   obtain⟨p,hp,rfl,hv⟩:=bst_get3 h1 h2
   obtain⟨hN,hk,hk2,c,hc⟩:=B.fvs p hp
   obtain⟨m0,_,hl⟩:=I.loc
   have vis:Vis X.env.scope p.2:=hk.elim (fun z=>.inr (.inl z)) fun z=>.inr (.inr z)
   obtain⟨u,r,l⟩:=hl p.1 p.2 v hN hv vis
   refine⟨u,r,.inr ⟨hk2,c,hc,?_⟩⟩
   rcases l with ⟨z,_⟩ | ⟨_,c',hc',o,ho,hd⟩
   ·have z':X.env.scope.names.lookup p.2=some .local:=z
    rcases hk with k | k <;> (rw [k] at z';cases z')
   ·have:=B.sub p.2 c hc
    rw [hc'] at this;cases this
    exact⟨o,keep _ o ho,hd⟩
 ·obtain⟨v,o,ho,hd⟩:=I.cell y c (B.sub y c e)
  exact⟨v,o,keep c o ho,hd⟩
theorem blk_store3 {s:Shared} {H0:Hp} {fp:List Addr} {C:Addr} (hc:X.calm=true) (B:BlkOk3 X x z z3 fv scope cl):
  PG (blk3 X x z z3 fv scope cl C s H0 fp) (.Tuple [.Name x px,.Name z pz,.Name z3 p3] tk tpos) (gTup X.K 3 (gCons (gName 0) (gCons (gName 1) (gCons (gName 2) gNil)))):=by
 have h1:(relabel scope X.env).names.lookup x=some .local:=lookup_relabel_local B.here
 have h2:(relabel scope X.env).names.lookup z=some .local:=lookup_relabel_local B.here2
 have h3:(relabel scope X.env).names.lookup z3=some .local:=lookup_relabel_local B.here3
 exact pg_tup (X:=blk3 X x z z3 fv scope cl C s H0 fp) hc (pgs_cons (pg_name (i:=0) B.nd rfl (.inl h1) (.inr h1)) (pgs_cons (pg_name (i:=1) B.nd rfl (.inl h2) (.inr h2)) (pgs_cons (pg_name (i:=2) B.nd rfl (.inl h3) (.inr h3)) pgs_nil)))
theorem blk_run3 {pins:List (Addr×Obj)} {σ:St} {H:Hp} {s2:Shared} {it:Addr} {fp:List Addr} {tn:Nat->Heap->Prop} {J:It} {Q:VK} {E:Value->Shared->Prop} {RR:Value->Addr->Result->Shared->Prop}
  (hc:X.calm=true) (B:BlkOk3 X x z z3 fv scope cl) (he:∀C s H fp,PE (blk3 X x z z3 fv scope cl C s H fp) elt te) (I:Inv X pins σ H s2) (T:Turn X.prog X.w X.K (.Tuple [.Name x px,.Name z pz,.Name z3 p3] tk tpos) J fp it tn) (st:tn 0 s2.heap) (hf:∀b∈fp,FpOk X pins H b)
  (rd:∀D,H D=none->∃W:Nat->Nat->Hp->Prop,(∃m,W 0 m (upd H D (.lst [])))∧∀i m H,W i m H->
   (J.stop i H∧Q (.ref D) H)∨(J.go i H∧∃N:Hp->Prop,(∀H',N H'->∃m',m' < m∧W (i+1) m' H')∧∀v H',J.yld i H v H'->∃q x1 x2 x3,v=.ref q∧SqT X.K H' q [x1,x2,x3]∧te (bst3 fv σ (some x1) (some x2) (some x3)) H' fun y H2=>∃ys,H2 D=some (.lst ys)∧ys.length < sizeLine∧N (upd H2 D (.lst (ys++[y])))))
  (hRR:∀D C s' H' m',Inv X pins σ H' s'->FpOk X pins H' C->s'.heap.Ns C m'->Q (.ref D) H'->RR (.ref D) C (.ok .next) s'):
  wpAny (model X.prog X.w) X.A (newList []) (fun acc s₃=>wpAny (model X.prog X.w) X.A (newFunctionEnv scope X.env.globals cl [] X.env.qual none .none (some X.env)) (fun cenv s₄=>
   codeAny (model X.prog X.w) X.A (.compStart (.ListComp elt [⟨(.Tuple [.Name x px,.Name z pz,.Name z3 p3] tk tpos),iter,[],0⟩] scope pos) 0 (.ref it) acc { cenv with scope:=relabel scope X.env }) (RR acc cenv.locals) s₄) E s₃) E s2:=by
 refine wpAny_newObj_type ?_ (by show 0<=sizeLine;exact Nat.zero_le _)
 have hD:H s2.heap.objs.size=none:=I.hok.fresh (Nat.le_refl _)
 have I3:=I.lnew (ys:=[]) (its:=[]) (t':=s2.toks) .nil (Nat.zero_le _)
 generalize hs3:({ s2 with heap:=s2.heap.push { cls:=.type "list",data:=.seq ([]:List Value).toArray },toks:=s2.toks }:Shared)=s3 at I3
 have sz3:s3.heap.objs.size=s2.heap.objs.size+1:=by rw [← hs3];exact Heap.size_push ..
 have up3:∀b o,s2.heap.get? b=some o->s3.heap.get? b=some o:=fun b o e=>by rw [← hs3];exact Heap.get?_push_of_some _ e
 have hf3:∀b∈fp,FpOk X pins (upd H s2.heap.objs.size (.lst [])) b:=fun b hb=>by
  obtain⟨f0,r⟩:=hf b hb
  refine⟨?_,r⟩
  obtain⟨o,e,_⟩:=T.obj 0 _ st b hb
  rw [upd_ne (Nat.ne_of_lt (Heap.lt_size e))];exact f0
 have ltf:∀b∈fp,b < s2.heap.objs.size:=fun b hb=>by
  obtain⟨o,e,_⟩:=T.obj 0 _ st b hb
  exact Heap.lt_size e
 have st3:tn 0 s3.heap:=T.keep 0 _ _ st fun b _ o e=>up3 b o e
 obtain⟨W,⟨m0,w0⟩,turn⟩:=rd _ hD
 refine wpAny_newFunctionEnv B.nocell (by intro y hy;simp at hy) (fun h₁ hns₁ hsb₁=>?_) B.kind
 have hfC:∀b∈fp,b≠s3.heap.objs.size:=fun b hb=>Nat.ne_of_lt (by rw [sz3];exact Nat.lt_succ_of_lt (ltf b hb))
 have up4:∀b o,s3.heap.get? b=some o->h₁.get? b=some o:=fun b o e=>hsb₁.extBut b o (Nat.ne_of_lt (Heap.lt_size e)) (Heap.get?_push_of_some _ e)
 generalize hs4:({ s3 with heap:=h₁,toks:=s3.toks+([]:List (Str×Value)).length }:Shared)=s4
 have h4:s4.heap=h₁:=by rw [← hs4]
 have I4:Inv (blk3 X x z z3 fv scope cl s3.heap.objs.size s3 (upd H s2.heap.objs.size (.lst [])) fp) [] (bst3 fv σ none none none) (upd H s2.heap.objs.size (.lst [])) s4:=
  blk_start3 B I3 hf3 rfl hfC (by rw [← hs4]) (by rw [← hs4]) (fun b o e=>by rw [h4];exact up4 b o e) (by rw [h4];exact hns₁)
 have st4:tn 0 s4.heap:=by rw [h4];exact T.keep 0 _ _ st3 fun b _ o e=>up4 b o e
 have stat:∀{H':Hp},(∀b∈fp,H' b=none)->∀b∈fp,FpOk (blk3 X x z z3 fv scope cl s3.heap.objs.size s3 (upd H s2.heap.objs.size (.lst [])) fp) [] H' b:=fun {H'} hn b hb=>by
  obtain⟨_,f1,f2,f3,f4,f5⟩:=hf b hb
  refine⟨hn b hb,hfC b hb,fun z'=>?_,.inl hb,fun y c e=>f4 y c (B.sub y c e),fun p hp=>absurd (show p∈([]:List (Addr×Obj)) from hp) (by simp)⟩
  rcases List.mem_cons.mp (I.stkSub b z') with q | q
  ·exact f1 q
  ·exact f2 q
 have loop:codeAny (model X.prog X.w) X.A (.compLoop (.ListComp elt [⟨(.Tuple [.Name x px,.Name z pz,.Name z3 p3] tk tpos),iter,[],0⟩] scope pos) 0 (.ref it) (.ref s2.heap.objs.size) (compEnvC scope cl s3.heap.objs.size X.env)) (RR (.ref s2.heap.objs.size) s3.heap.objs.size) s4:=by
  refine compLoop_one (fun n s'=>∃i H' o o2 o3,Inv (blk3 X x z z3 fv scope cl s3.heap.objs.size s3 (upd H s2.heap.objs.size (.lst [])) fp) [] (bst3 fv σ o o2 o3) H' s'∧tn i s'.heap∧(∀b∈fp,H' b=none)∧W i n H') ?_ m0
   ⟨0,_,none,none,none,I4,st4,fun b hb=>(hf3 b hb).1,w0⟩
  rintro n s5 E' ⟨i,H5,o5,o6,o7,I5,st5,fr5,w5⟩
  rcases turn i n H5 w5 with ⟨stop,q⟩ | ⟨go,N,hN,step⟩
  ·refine thn (T.done (blk3 X x z z3 fv scope cl s3.heap.objs.size s3 (upd H s2.heap.objs.size (.lst [])) fp) rfl rfl rfl hc i [] s5 _ H5 _ I5 (stat fr5) st5 stop) fun r s6 ⟨hr,I6⟩=>?_
   subst hr
   obtain⟨m6,hn6,_⟩:=I6.loc
   have un:Un (frs X.stack) fp H H5 s2.heap s6.heap:=by
    have u1:Un (frs X.stack) fp H (upd H s2.heap.objs.size (.lst [])) s2.heap s3.heap:=Un.laid up3 (Nat.le_refl _) hD
    exact u1.trans I6.base
   have J6:Inv X pins σ H5 s6:=by
    refine I.call' ?_ un I6.hok I6.bare fun b hb=>?_
    ·have:=I6.os
     rw [show (blk3 X x z z3 fv scope cl s3.heap.objs.size s3 (upd H s2.heap.objs.size (.lst [])) fp).s₀.os=s2.os by rw [← hs3]] at this
     exact this
    ·obtain⟨_,f1,f2,f3,f4,f5⟩:=hf b hb
     exact⟨f3,f1,f4,f5⟩
   refine hRR _ _ s6 H5 m6 J6 ?_ hn6 q
   exact I3.fpOk (Nat.le_refl _) I6.free
  ·refine thn (T.item (blk3 X x z z3 fv scope cl s3.heap.objs.size s3 (upd H s2.heap.objs.size (.lst [])) fp) rfl rfl rfl hc i [] s5 _ H5 _ I5 (stat fr5) st5 go) fun r s6 ⟨u,hr,h6⟩=>?_
   subst hr
   refine thn h6 fun _ s7 ⟨v,H7,I7,r7,y7,st7,fr7⟩=>?_
   have I7':=I7.pinned (stat fr7) (T.obj _ _ st7)
   obtain⟨q7,x1,x2,x3,ev,sq7,rd7⟩:=step v H7 y7
   refine wpAny_mono (blk_store3 (px:=px) (pz:=pz) (p3:=p3) (tk:=tk) (tpos:=tpos) hc B _ s7 _ H7 v u (fun σ' H'=>σ'=bst3 fv σ (some x1) (some x2) (some x3)∧H'=H7) I7' r7 ⟨q7,[x1,x2,x3],ev,sq7,rfl,x1,[x2,x3],rfl,x2,[x3],rfl,x3,[],rfl,rfl,rfl,rfl⟩) (fun _ s8 ⟨σ8,H8,I8,e8a,e8b⟩=>?_) fun _ _ z=>False.elim z
   subst e8a e8b
   have e8:=he _ _ _ _ _ s8 _ _ _ I8 rd7
   refine wpAny_mono e8 (fun y s9 ⟨yv,H9,I9,r9,ys,hD9,hz,n9⟩=>?_) fun _ _ z=>False.elim z
   have a9:=mt_append (X:=blk3 X x z z3 fv scope cl s3.heap.objs.size s3 (upd H s2.heap.objs.size (.lst [])) fp) _ s9 _ H9 (.ref s2.heap.objs.size) [yv] (.ref s2.heap.objs.size) [y] (fun _ H10=>H10=upd H9 s2.heap.objs.size (.lst (ys++[yv]))) I9 rfl (.cons r9 .nil)
    ⟨_,ys,yv,rfl,rfl,hD9,hz,rfl⟩
   refine wpAny_mono a9 (fun _ s10 ⟨_,H10,I10,_,e10⟩=>?_) fun _ _ z=>False.elim z
   subst e10
   obtain⟨m',hm,w9⟩:=hN _ n9
   refine⟨m',hm,i+1,_,some x1,some x2,some x3,I10.unpinned,T.keep _ _ _ st7 fun b hb o e=>(I10.pin (b,o) (List.mem_append_right _ (List.mem_append_right _ (mem_pinsAt hb e)))).1,fun b hb=>?_,w9⟩
   obtain⟨o,e,_⟩:=T.obj _ _ st7 b hb
   exact (I10.pin (b,o) (List.mem_append_right _ (List.mem_append_right _ (mem_pinsAt hb e)))).2.1
 exact codeAny_compStart_list loop (T.self _ 0 _ _ _ st4 loop)
def CLoop3 (K:W.Frag) (J:It) (fv:List (Nat×Str)) (te:TE) (Q:VK) (σ:St) (H1:Hp) (D:Addr):Prop:=∃W:Nat->Nat->Hp->Prop,(∃m,W 0 m (upd H1 D (.lst [])))∧∀i m H,W i m H->
 (J.stop i H∧Q (.ref D) H)∨(J.go i H∧∃N:Hp->Prop,(∀H',N H'->∃m',m' < m∧W (i+1) m' H')∧∀v H',J.yld i H v H'->∃q x1 x2 x3,v=.ref q∧SqT K H' q [x1,x2,x3]∧te (bst3 fv σ (some x1) (some x2) (some x3)) H' fun y H2=>∃ys,H2 D=some (.lst ys)∧ys.length < sizeLine∧N (upd H2 D (.lst (ys++[y]))))
def tComp3 (K:W.Frag) (fv:List (Nat×Str)) (wi:TI) (te:TE):TE:=fun σ H Q=>wi σ H fun J H1=>∀D,H1 D=none->CLoop3 K J fv te Q σ H1 D
theorem a_tComp3 {K:W.Frag} {σ:St} {H:Hp} {Q:VK}:tComp3 K fv wi te σ H Q=wi σ H fun J H1=>∀D,H1 D=none->CLoop3 K J fv te Q σ H1 D:=rfl
theorem pe_lcomp3 (hc:X.calm=true) (B:BlkOk3 X x z z3 fv scope cl) (hi:PI X (.Tuple [.Name x px,.Name z pz,.Name z3 p3] tk tpos) iter wi) (he:∀C s H fp,PE (blk3 X x z z3 fv scope cl C s H fp) elt te)
  (hs:∀v,foldedSetIterable iter X.env v=pure v:=by intro _;rfl):PE X (.ListComp elt [⟨.Tuple [.Name x px,.Name z pz,.Name z3 p3] tk tpos,iter,[],0⟩] scope pos) (tComp3 X.K fv wi te):=by
 intro pins s σ H Q I h
 rw [eval_ListComp]
 refine wpAny_comprehension_free (use:=none) rfl hs B.clos B.kind B.names (thn (hi pins s σ H _ I h) fun v s1 h1=>thn h1 fun itv s2 h2=>?_)
 obtain⟨it,fp,tn,J,H2,e,I2,T,st2,f2,rd⟩:=h2
 subst e
 refine blk_run3 (RR:=fun acc C=>compPost (model X.prog X.w) X.A X.xe none (EP X pins σ Q) acc C) hc B he I2 T st2 f2 rd ?_
 intro D C s' H' m' I' fC hn q
 exact⟨m',hn,fun h' sb=>⟨.ref D,H',I'.turned (t':=s'.toks) (fun b o hb e=>(sb.2 b hb).trans e) fC.1 fC.2.1 fC.2.2.2.1 fC.2.2.2.2.1 fC.2.2.2.2.2,rfl,q⟩⟩
theorem blkok3 {X:Cx} {x z z3:Str} {fv:List (Nat×Str)} {scope:Scope} {cl:List (Str×Addr)} (clos:closureFor scope X.env=pure cl) (sub:∀y c,cl.lookup y=some c->X.env.cells.lookup y=some c) (fvs:FvOk2 X scope cl fv)
  (nd:(x :: z :: z3 :: fv.map (·.2)).Nodup:=by decide) (kind:scope.kind=.function:=by rfl) (here:scope.names.lookup x=some .local:=by rfl) (here2:scope.names.lookup z=some .local:=by rfl) (here3:scope.names.lookup z3=some .local:=by rfl) (nocell:∀y∈scope.names,y.2≠.cell:=by decide +kernel)
  (names:∀y∈scope.names,y.2=.local->scope.names.lookup y.1=some .local:=by decide +kernel)
  (has:((relabel scope X.env).names.all fun p=>(p.2 != .cell && p.2 != .free) || (cl.lookup p.1).isSome)=true:=by rfl):BlkOk3 X x z z3 fv scope cl:=
 ⟨clos,nocell,kind,names,here,here2,here3,nd,sub,has_of has,fvs⟩
end
def Itz3 (K:W.Frag) (a b c:Addr):It:=
 ⟨fun i H=>∃xs ys zs x y v,SqT K H a xs∧SqT K H b ys∧SqT K H c zs∧xs[i]?=some x∧ys[i]?=some y∧zs[i]?=some v,
  fun i H v H'=>∃p x y u,H p=none∧v=.ref p∧H'=upd H p (.tup [x,y,u])∧(∀xs,SqT K H a xs->xs[i]?=some x)∧(∀ys,SqT K H b ys->ys[i]?=some y)∧∀zs,SqT K H c zs->zs[i]?=some u,
  fun i H=>∃xs,SqT K H a xs∧xs.length<=i⟩
theorem turn_zip3 {P:Program} {w:World} {K:W.Frag} {elts:List Expr} {tk:Nat} {tpos:Pos} (a b c z TI TO i1 i2 i3:Addr) (D:Zip3 z TI TO i1 i2 i3 a b c):
  Turn P w K (.Tuple elts tk tpos) (Itz3 K a b c) [z,TI,TO,i1,i2,i3] z (fun i h=>IsZip h z TI TO .none∧IsTrip h TI (.ref i1) (.ref i2) (.ref i3)∧(∃u v q,IsTrip h TO u v q)∧h.IsTupleIter i1 a i∧h.IsTupleIter i2 b i∧h.IsTupleIter i3 c i) where
 mem:=by simp
 obj:=fun i h st c hb=>by
  obtain⟨hz,hTI,⟨u,v,q,hTO⟩,⟨o1,e1,c1,d1⟩,⟨o2,e2,c2,d2⟩,⟨o3,e3,c3,d3⟩⟩:=st
  simp only [List.mem_cons,List.not_mem_nil,or_false] at hb
  rcases hb with rfl | rfl | rfl | rfl | rfl | rfl
  ·exact⟨_,hz,fun v z=>by
    have z':Data.fields _=Data.cell v:=z
    cases z'⟩
  ·exact⟨_,hTI,fun v z=>by
    have z':Data.seq _=Data.cell v:=z
    cases z'⟩
  ·exact⟨_,hTO,fun v z=>by
    have z':Data.seq _=Data.cell v:=z
    cases z'⟩
  ·exact⟨o1,e1,fun v z=>by rw [d1] at z;cases z⟩
  ·exact⟨o2,e2,fun v z=>by rw [d2] at z;cases z⟩
  ·exact⟨o3,e3,fun v z=>by rw [d3] at z;cases z⟩
 keep:=fun i h h' st k=>by
  obtain⟨hz,hTI,⟨u,v,q,hTO⟩,h1,h2,h3⟩:=st
  exact⟨k z (by simp) _ hz,k TI (by simp) _ hTI,⟨u,v,q,k TO (by simp) _ hTO⟩,h1.at fun o q=>k i1 (by simp) o q,h2.at fun o q=>k i2 (by simp) o q,h3.at fun o q=>k i3 (by simp) o q⟩
 item:=by
  intro X hP hw hK hc i pins s σ H E I hf st hg
  subst hP hw hK
  obtain⟨xs,ys,zs,x,y,v,hq1,hq2,hq3,hx,hy,hv⟩:=hg
  obtain⟨its1,rv1,pl1,hz1⟩:=I.tuple hq1
  obtain⟨its2,rv2,pl2,hz2⟩:=I.tuple hq2
  obtain⟨its3,rv3,pl3,hz3⟩:=I.tuple hq3
  obtain⟨u1,hu1,ru1⟩:=rv1.get hx
  obtain⟨u2,hu2,ru2⟩:=rv2.get hy
  obtain⟨u3,hu3,ru3⟩:=rv3.get hv
  obtain⟨hz,hTI,⟨_,_,_,hTO⟩,hit1,hit2,hit3⟩:=st
  refine pyNext_zip3 D hz hTI hTO hit1 hit2 hit3 pl1 pl2 pl3 (x:=u1) (y:=u2) (v:=u3) (by simpa using hu1) (by simpa using hu2) (by simpa using hu3) fun h1 ho hTO1 hi1 hi2 hi3 hT hk'=>?_
  have hk:∀c o,c≠z->c≠TO->c≠i1->c≠i2->c≠i3->s.heap.get? c=some o->h1.get? c=some o:=fun c o n1 n2 n3 n4 n5 e=>hk' c o (by simp [n1,n2,n3,n4,n5]) e
  refine⟨_,rfl,wpAny_letOwnedTupleGo_zip ho fun h2 he2 hs2=>?_⟩
  have hp:H s.heap.objs.size=none:=I.hok.fresh (Nat.le_refl _)
  have hpz:s.heap.objs.size≠z:=Nat.ne_of_gt (Heap.lt_size hz)
  have k2:∀c o,c∉[z,TI,TO,i1,i2,i3]->s.heap.get? c=some o->h2.get? c=some o:=fun c o hb q=>
   (hs2.2 c fun e=>hb (by simp [e])).trans (hk c o (fun e=>hb (by simp [e])) (fun e=>hb (by simp [e])) (fun e=>hb (by simp [e])) (fun e=>hb (by simp [e])) (fun e=>hb (by simp [e])) q)
  have hT2:h2.get? s.heap.objs.size=some { cls:=.type "tuple",data:=.seq #[u1,u2,u3] }:=(hs2.2 _ hpz).trans hT
  have nch:∀c u,H c=some u->c∉[z,TI,TO,i1,i2,i3]:=fun c u q hb=>by
   rw [(hf c hb).1] at q;cases q
  have up:∀c,c < s.heap.objs.size->c≠s.heap.objs.size:=fun c hb=>Nat.ne_of_lt hb
  have I2:Inv X pins σ (upd H s.heap.objs.size (.tup [x,y,v])) { s with heap:=h2 }:=by
   refine I.step (g':=s.gens) (d':=s.drawn) (t':=s.toks) (ch:=[z,TI,TO,i1,i2,i3]) (fun c hb=>?_) (fun c o _ _ hc q _=>k2 c o hc q) (fun c o _ _ hc q _=>⟨o.slots,k2 c o hc q⟩)
    (fun c o _ q n=>by rw [upd_ne (up c (Heap.lt_size q))];exact n) (fun c o hc q=>⟨o,k2 c o hc q⟩) (fun c ys q=>by rw [upd_ne (ne_of_none q hp)];exact q) (fun c o v q=>by rw [upd_ne (ne_of_none q hp)];exact q)
    (fun c ps q=>⟨#[],by rw [upd_ne (ne_of_none q hp),q];simp⟩) (fun m hm=>?_) (fun c v q=>?_) I.bare
   ·obtain⟨f0,f1,f2,f3,f4,f5⟩:=hf c hb
    exact⟨f3,f1,f4,f5⟩
   ·obtain⟨o,es,ep,q,r⟩:=hm
    refine⟨o,es,ep,k2 _ o (fun e=>?_) q,r⟩
    exact (hf _ e).2.1 rfl
   ·by_cases hb:c=s.heap.objs.size
    ·subst hb
     rw [upd_same] at q;cases q
     exact⟨by show 3<=sizeLine;decide,[u1,u2,u3],.cons ru1 (.cons ru2 (.cons ru3 .nil)),⟨_,hT2,rfl,_,rfl⟩⟩
    ·rw [upd_ne hb] at q
     refine (I.hok c v q).stay (fun c' o hc r=>k2 c' o ?_ r) (fun c' r=>by rw [upd_ne (ne_of_none r hp)];exact r) fun c' ys r=>by rw [upd_ne (ne_of_none r hp)];exact r
     rcases hc with e | e
     ·rw [e];exact nch c v q
     ·exact nch c' _ e
  refine⟨.ref s.heap.objs.size,_,I2,rfl,⟨_,x,y,v,hp,rfl,rfl,fun zs hz'=>by rw [I.tuple_inj hz' hq1];exact hx,fun zs hz'=>by rw [I.tuple_inj hz' hq2];exact hy,fun zs hz'=>by rw [I.tuple_inj hz' hq3];exact hv⟩,
   ⟨he2,(hs2.2 TI D.TIz).trans (hk TI _ D.TIz D.TITO D.TIi1 D.TIi2 D.TIi3 hTI),⟨_,_,_,(hs2.2 TO D.TOz).trans hTO1⟩,hi1.at fun o q=>(hs2.2 i1 D.i1z).trans q,hi2.at fun o q=>(hs2.2 i2 D.i2z).trans q,hi3.at fun o q=>(hs2.2 i3 D.i3z).trans q⟩,fun c hb=>?_⟩
  have lb:c < s.heap.objs.size:=by
   simp only [List.mem_cons,List.not_mem_nil,or_false] at hb
   rcases hb with rfl | rfl | rfl | rfl | rfl | rfl
   ·exact Heap.lt_size hz
   ·exact Heap.lt_size hTI
   ·exact Heap.lt_size hTO
   ·obtain⟨_,q,_⟩:=hit1;exact Heap.lt_size q
   ·obtain⟨_,q,_⟩:=hit2;exact Heap.lt_size q
   ·obtain⟨_,q,_⟩:=hit3;exact Heap.lt_size q
  rw [upd_ne (up c lb)]
  exact (hf c hb).1
 done:=by
  intro X hP hw hK hc i pins s σ H E I hf st hg
  subst hP hw hK
  obtain⟨xs,hq1,hx⟩:=hg
  obtain⟨its1,rv1,pl1,hz1⟩:=I.tuple hq1
  obtain⟨hz,hTI,⟨_,_,_,hTO⟩,hit1,hit2,hit3⟩:=st
  have hl1:=rv1.length
  refine pyNext_zip3End (I.ok.hd hc) D hz hTI hit1 pl1 (by simp;omega) fun h' eb'=>⟨rfl,?_⟩
  have k2:∀c o,c∉[z,TI,TO,i1,i2,i3]->s.heap.get? c=some o->h'.get? c=some o:=fun c o hb q=>eb' c o (fun e=>hb (by
   simp only [List.mem_cons,List.not_mem_nil,or_false] at e ⊢
   rcases e with e | e | e | e | e <;> simp [e])) q
  refine I.step (g':=s.gens) (d':=s.drawn) (t':=s.toks) (ch:=[z,TI,TO,i1,i2,i3]) (fun c hb=>?_) (fun c o _ _ hc q _=>k2 c o hc q) (fun c o _ _ hc q _=>⟨o.slots,k2 c o hc q⟩)
   (fun c o _ q n=>n) (fun c o hc q=>⟨o,k2 c o hc q⟩) (fun c ys q=>q) (fun c o v q=>q) (fun c ps q=>⟨#[],by rw [q];simp⟩) (fun m hm=>?_) (fun c v q=>?_) I.bare
  ·obtain⟨f0,f1,f2,f3,f4,f5⟩:=hf c hb
   exact⟨f3,f1,f4,f5⟩
  ·obtain⟨o,es,ep,q,r⟩:=hm
   exact⟨o,es,ep,k2 _ o (fun e=>(hf _ e).2.1 rfl) q,r⟩
  ·refine (I.hok c v q).stay (fun c' o hc r=>k2 c' o ?_ r) (fun c' r=>r) fun c' ys r=>r
   have nch:∀c u,H c=some u->c∉[z,TI,TO,i1,i2,i3]:=fun c u q hb=>by
    rw [(hf c hb).1] at q;cases q
   rcases hc with e | e
   ·rw [e];exact nch c v q
   ·exact nch c' _ e
 self:=fun _ _ _ _ _ st h=>wpAny_pyIter_zip st.1 h
section
variable {X:Cx}
def iZip3 (K:W.Frag) (ta:TA):TI:=fun σ H R=>ta σ H fun vs H1=>∃a b c xs ys zs,vs=[.ref a,.ref b,.ref c]∧SqT K H1 a xs∧SqT K H1 b ys∧SqT K H1 c zs∧R (Itz3 K a b c) H1
theorem a_izip3 {K:W.Frag} {ta:TA} {σ:St} {H:Hp} {R:It->Hp->Prop}:iZip3 K ta σ H R=ta σ H fun vs H1=>∃a b c xs ys zs,vs=[.ref a,.ref b,.ref c]∧SqT K H1 a xs∧SqT K H1 b ys∧SqT K H1 c zs∧R (Itz3 K a b c) H1:=rfl
theorem pi_zip3 {elts:List Expr} {tk:Nat} {tpos:Pos} {a b c:Expr} {ta:TA} {p pos:Pos} (hg:Gl X "zip") (hm:X.mg "zip" = none) (ha:PA X [a,b,c] ta) (hs:starEach [a,b,c] X.env=(false,eval a X.env) :: starEach [b,c] X.env:=by rfl)
  (hs2:(backTo pos (starEach [b,c] X.env)).any (·.1)=false:=by rfl):
  PI X (.Tuple elts tk tpos) (.Call (.Name "zip" p) [a,b,c] [] pos) (iZip3 X.K ta):=by
 intro pins s σ H R I h
 refine Call_ (ld_blt I hg hm boot_zip (PyProof.Rows.callWith_type1 (thn (ha pos pins s σ H _ I h) fun us s1 ⟨vs,H1,I1,r1,q1⟩=>?_) hs hs2))
 obtain⟨a,b,c,xs,ys,zs,e,hq1,hq2,hq3,q⟩:=q1
 subst e
 cases r1 with
 | cons r rr=>
  cases rr with
  | cons r' rr=>
  cases rr with
  | cons r'' rr=>
  cases rr
  cases r
  cases r'
  cases r''
  have fr:∀c,c∈[s1.heap.objs.size+5,s1.heap.objs.size+3,s1.heap.objs.size+4,s1.heap.objs.size,s1.heap.objs.size+1,s1.heap.objs.size+2]->s1.heap.objs.size<=c:=fun c hb=>by
   simp only [List.mem_cons,List.not_mem_nil,or_false] at hb
   rcases hb with rfl | rfl | rfl | rfl | rfl | rfl <;> omega
  obtain⟨its1,rv1,pl1,hz1⟩:=I1.tuple hq1
  obtain⟨its2,rv2,pl2,hz2⟩:=I1.tuple hq2
  obtain⟨its3,rv3,pl3,hz3⟩:=I1.tuple hq3
  have a1:a < s1.heap.objs.size:=by obtain⟨_,e,_⟩:=pl1;exact Heap.lt_size e
  have a2:b < s1.heap.objs.size:=by obtain⟨_,e,_⟩:=pl2;exact Heap.lt_size e
  have a3:c < s1.heap.objs.size:=by obtain⟨_,e,_⟩:=pl3;exact Heap.lt_size e
  refine call_zip3 pl1 pl2 pl3 fun h1 hz hTI hTO hi1 hi2 hi3 hk=>wpAny_pyIter_zip hz ?_
  exact⟨_,_,_,_,H1,rfl,I1.kept (t':=s1.toks) hk,turn_zip3 a b c _ _ _ _ _ _ (zip3_new a1 a2 a3),⟨hz,hTI,⟨_,_,_,hTO⟩,hi1,hi2,hi3⟩,fun c hb=>I1.fpOk (fr c hb) (I1.hok.fresh (fr c hb)),q⟩
end
theorem bools_are {bs:List Bool} {us:List Value}:Vals (bs.map V.bl) us->PyProof.Rows.LSm.BoolsAre us bs:=by
 induction bs generalizing us with
 | nil=>intro h;cases h;exact .nil
 | cons b bs ih=>intro h;cases h with | cons r rr=>cases r;exact .cons b (ih rr)
section
variable {X:Cx}
theorem call_allL (hc:X.calm=true):CallR X (.builtin "all") (fun xs H Q=>∃(p:Addr) (bs:List Bool),xs=[.ref p]∧SqL X.K H p (bs.map V.bl)∧Q (.bl (bs.all id)) H):=by
 intro pins s σ H xs us Q I r h
 obtain⟨p,bs,rfl,hq,q⟩:=h
 obtain⟨u,rfl,rx⟩:=vals1 r
 cases rx
 obtain⟨its,r',pl,hz⟩:=I.list hq
 have hb:=bools_are r'
 have hl:=pl.isList
 have hlt:p < s.heap.objs.size:=by obtain⟨_,e,_⟩:=hl;exact Heap.lt_size e
 refine call_all_walk (wpAny_pyIter_list hl ?_)
 refine⟨s.heap.objs.size,[s.heap.objs.size,p],[s.heap.objs.size],its.toArray.size,_,_,fun i=>(bs[i]?).getD true,rfl,Walks.list (A:=X.A.in1) (I.ok.hd hc) _ p (Nat.ne_of_lt hlt) its.toArray,
  ⟨⟨_,Heap.get?_push_size _ rfl,rfl,rfl⟩,hl.push _⟩,fun i v s' Q' E' hP hQ=>?_,fun h' tk hk=>?_⟩
 ·obtain⟨b,e,rfl⟩:=hb.get i v (by simpa using hP)
  simp only [e,Option.getD_some] at hQ
  exact wpAny_truthy_bool hQ
 ·have e:((List.range its.toArray.size).all fun i=>(bs[i]?).getD true)=bs.all id:=by
   rw [List.size_toArray,hb.length];exact PyProof.Rows.LSm.range_all bs
  rw [e]
  exact⟨.bl _,H,I.kept (PyProof.Rows.LSm.kept_iter hk),rfl,q⟩
theorem call_isinstC:CallR X (.builtin "isinstance") (fun xs H Q=>∃x C t b,xs=[x,.ref C]∧TyOf X.K H x t∧PySem.W.kitOne X.K t (.ref C)=some b∧Q (.bl b) H):=by
 intro pins s σ H xs us Q I r h
 obtain⟨x,C,t,b,rfl,ty,e,q⟩:=h
 cases r with
 | cons r1 rr=>
  cases rr with
  | cons r2 rr=>
   cases rr
   cases r2
   exact isinst_ok I r1 ty e fun tk=>⟨.bl b,H,I.tok _,rfl,q⟩
def tMake0 (C:Addr):TE:=fun _ H Q=>∀x dx,H x=none->H dx=none->dx≠x->Q (.ref x) (upd (upd H dx (.own x)) x (.ins C dx []))
theorem a_make0 {C:Addr} {σ:St} {H:Hp} {Q:VK}:tMake0 C σ H Q=∀x dx,H x=none->H dx=none->dx≠x->Q (.ref x) (upd (upd H dx (.own x)) x (.ins C dx [])):=rfl
end
structure OCl (K:W.Frag) (C:Addr):Prop where
 cl:PySem.W.findIn K (.ref C) "__class__" = some (some (.builtin "object.__class__"))
 dg:PySem.W.specialIn K (.builtin "object.__class__") "__get__" = some (some (.builtin "getset_descriptor.__get__"))
 dt:PySem.W.takesIn K (.builtin "object.__class__")=some true
 ob:PySem.W.mroIn K C (.type "object")=some true
theorem OCl.ty {K:W.Frag} {H:Hp} {a C dx:Addr} {fs:List (Str×V)} (o:OCl K C) (c:Cls K C) (e:H a=some (.ins C dx fs)):TyOf K H (.ref a) (.ref C):=.ins e c o.cl o.dg o.dt o.ob
theorem a_eqS {x y:Str} {H:Hp} {Q:VK}:rEq (.str x) (.str y) H Q=Q (.bl (decide (x=y))) H:=by
 show (true=true∧Q (.bl (decide (V.str x=V.str y))) H)=_
 simp
section
variable {X:Cx} {elt iter:Expr} {x:Str} {px:Pos} {fv:List (Nat×Str)} {scope:Scope} {cl:List (Str×Addr)} {pos:Pos} {te:TE} {wi:TI}
end
section
variable {X:Cx} {elt iter:Expr} {x:Str} {px:Pos} {fv:List (Nat×Str)} {scope:Scope} {cl:List (Str×Addr)} {pos:Pos} {te:TE} {wi:TI}
end
section
variable {X:Cx} {k:Nat} {f:Addr} {fd:FuncData} {ps:List Str} {sp:Sp} {x:Str} {p pos:Pos} {e:Expr} {es:List Expr} {t:TA} {CX:CXT} {ds:List Value} {dvs:List V} {E:XK} {i:Nat}
end
open PySem
section
variable {K:Type} [DecidableEq K] {prog:Program} {w:World} {A:Around} {E:Value->Shared->Prop} {s:Shared} {knd:HeapKind prog w K}
end
section
variable {K:Type} [DecidableEq K]
end
section
variable {X:Cx}
end
section
variable {P:Program} {w:World} {K:W.Frag} {mg:Str->Option Value} {base:Heap} {N:List Str} {qual:Str} {sc0:Scope} {f:Addr} {cd:Value} {A:Around} {outer:List Env} {s0:Shared} {H0:Hp} {E:XK}
end
section
variable {P:Program} {w:World} {K:W.Frag} {mg:Str->Option Value} {base:Heap} {N:List Str} {qual:Str} {sc0:Scope} {f:Addr} {cd:Value} {A:Around} {outer:List Env} {s0:Shared} {H0:Hp} {E:XK}
 {elt iter:Expr} {x:Str} {px:Pos} {scope:Scope} {pos:Pos} {te:TE} {wi:TI}
end
section
variable {X:Cx} {k:Nat} {f C:Addr} {fd:FuncData} {ps:List Str} {sp:Sp} {x:Str} {p pos:Pos} {e:Expr} {es:List Expr} {t:TA}
end
section
variable {prog:Program} {w:World} {A:Around} {E:Value->Shared->Prop} {s:Shared}
end
section
variable {X:Cx}
end
section
variable {X:Cx} {pins:List (Addr×Obj)} {σ:St} {H H':Hp} {s:Shared} {a:Addr} {o:Obj} {xs:List V}
end
section
variable {X:Cx}
def rStarts:V->List V->Hp->VK->Prop:=fun x vs H Q=>∃a b,x=.str a∧vs=[.str b]∧Q (.bl (Txt.startswith a b)) H
theorem mt_starts:MtR X "str.startswith" rStarts:=by
 intro pins s σ H x xs v us Q I rx rs h
 obtain⟨a,b,rfl,rfl,q⟩:=h
 obtain⟨t,rfl⟩:=rx
 obtain⟨u,rfl,ru⟩:=Vals.one rs
 obtain⟨t',rfl⟩:=ru
 exact SC.startswith ⟨.bl _,H,I,rfl,q⟩
def rEnds:V->List V->Hp->VK->Prop:=fun x vs H Q=>∃a b,x=.str a∧vs=[.str b]∧Q (.bl (Txt.endswith a b)) H
theorem mt_ends:MtR X "str.endswith" rEnds:=by
 intro pins s σ H x xs v us Q I rx rs h
 obtain⟨a,b,rfl,rfl,q⟩:=h
 obtain⟨t,rfl⟩:=rx
 obtain⟨u,rfl,ru⟩:=Vals.one rs
 obtain⟨t',rfl⟩:=ru
 exact SC.endswith ⟨.bl _,H,I,rfl,q⟩
theorem vals_strs:∀(xs:List Str) (t:Tok),Vals (xs.map V.str) (strsFrom t xs)
 | [],_=>.nil
 | _ :: r,t=>.cons ⟨_,rfl⟩ (vals_strs r _)
def newS (H:Hp) (Q:VK) (xs:List Str):Prop:=∀p,H p=none->Q (.ref p) (upd H p (.lst (xs.map V.str)))
def rSplit:V->List V->Hp->VK->Prop:=fun x vs H Q=>∃a b,x=.str a∧vs=[.str b]∧b.length≠0∧a.length<=100000∧(Txt.split a b).length<=100000∧newS H Q (Txt.split a b)
theorem mt_split:MtR X "str.split" rSplit:=by
 intro pins s σ H x xs v us Q I rx rs h
 obtain⟨a,b,rfl,rfl,b0,la,lp,q⟩:=h
 obtain⟨t,rfl⟩:=rx
 obtain⟨u,rfl,ru⟩:=Vals.one rs
 obtain⟨t',rfl⟩:=ru
 have hy:(b.length == 0)=false:=by simpa using b0
 have sz:(100000:Nat)<=sizeLine:=by decide
 unfold Txt.split at q lp
 cases h1:(decide (a.length < b.length) || decide (Builtin.Str.strKind a < Builtin.Str.strKind b)) with
 | true=>
  rw [h1,if_pos rfl] at q
  refine call_meets F.slot_str_split (typeIs_str _ _ _) F.entry_str_split (F.args_str_split_2 _ _) (meets_str_split_cannot_occur a b t t' h1) ?_
  exact⟨.ref s.heap.objs.size,_,I.laid (t':=s.toks) (fun b ob q=>Heap.get?_push_of_some _ q) (Nat.le_refl _) (show ObjOk X.prog X.w _ _ _ (.lst [V.str a]) from ⟨by show 1<=sizeLine;decide,[Value.str a t],0,.cons ⟨_,rfl⟩ .nil,Heap.get?_push_size _ rfl⟩),rfl,q _ (I.hok.fresh (Nat.le_refl _))⟩
 | false=>
  rw [h1,if_neg (by decide)] at q lp
  cases hf:(Builtin.Str.occurrences a b 0 a.length (a.length+1)).isEmpty with
  | true=>
   rw [hf,if_pos rfl] at q
   refine call_meets F.slot_str_split (typeIs_str _ _ _) F.entry_str_split (F.args_str_split_2 _ _) (meets_str_split_not_found a b t t' h1 hy hf) ?_
   exact⟨.ref s.heap.objs.size,_,I.laid (t':=s.toks) (fun b ob q=>Heap.get?_push_of_some _ q) (Nat.le_refl _) (show ObjOk X.prog X.w _ _ _ (.lst [V.str a]) from ⟨by show 1<=sizeLine;decide,[Value.str a t],0,.cons ⟨_,rfl⟩ .nil,Heap.get?_push_size _ rfl⟩),rfl,q _ (I.hok.fresh (Nat.le_refl _))⟩
  | false=>
   rw [hf,if_neg (by decide)] at q lp
   refine call_meets F.slot_str_split (typeIs_str _ _ _) F.entry_str_split (F.args_str_split_2 _ _) (meets_str_split_sep a b t t' h1 hy hf (Nat.le_trans la sz) (Nat.le_trans lp sz)) ?_
   refine⟨.ref s.heap.objs.size,_,I.laid (t':=s.toks+_) (fun b ob q=>Heap.get?_push_of_some _ q) (Nat.le_refl _) (show ObjOk X.prog X.w _ _ _ (.lst (List.map V.str _)) from ⟨by rw [List.length_map];exact Nat.le_trans lp sz,_,0,vals_strs _ _,Heap.get?_push_size _ rfl⟩),rfl,q _ (I.hok.fresh (Nat.le_refl _))⟩
def rPartition:V->List V->Hp->VK->Prop:=fun x vs H Q=>∃a b,x=.str a∧vs=[.str b]∧b.length≠0∧a.length<=100000∧∀p,H p=none->Q (.ref p) (upd H p (.tup [.str (Txt.partition a b).1,.str (Txt.partition a b).2.1,.str (Txt.partition a b).2.2]))
def rIntS:List V->Hp->VK->Prop:=fun xs H Q=>∃a n,xs=[.str a]∧a.length<=640∧PySem.intText? a=some n∧Q (.int n) H
theorem call_intS:CallR X (.type "int") rIntS:=by
 intro pins s σ H xs us Q I rs h
 obtain⟨a,n,rfl,la,hn,q⟩:=h
 obtain⟨u,rfl,ru⟩:=Vals.one rs
 obtain⟨t',rfl⟩:=ru
 exact PySem.W.KIN.call_text hn la ⟨.int n,H,I.tok _,⟨_,rfl⟩,q⟩
theorem vals3S {a b c:Str} {t u v:Tok}:Vals [V.str a,V.str b,V.str c] [Value.str a t,Value.str b u,Value.str c v]:=.cons ⟨_,rfl⟩ (.cons ⟨_,rfl⟩ (.cons ⟨_,rfl⟩ .nil))
theorem mt_partition:MtR X "str.partition" rPartition:=by
 intro pins s σ H x xs v us Q I rx rs h
 obtain⟨a,b,rfl,rfl,b0,la,q⟩:=h
 obtain⟨t,rfl⟩:=rx
 obtain⟨u,rfl,ru⟩:=Vals.one rs
 obtain⟨t',rfl⟩:=ru
 have hy:(b.length == 0)=false:=by simpa using b0
 refine call_meets F.slot_str_partition (typeIs_str _ _ _) F.entry_str_partition (F.args_str_partition_2 _ _) (meets_str_partition a b t t' hy (Nat.le_trans la (by decide))) ?_
 unfold Txt.partition at q
 cases hc:Builtin.Str.occurrences a b 0 a.length 1 with
 | nil=>
  rw [hc] at q
  exact⟨.ref s.heap.objs.size,_,I.laid (t':=s.toks+1) (fun b ob q=>Heap.get?_push_of_some _ q) (Nat.le_refl _) (show ObjOk X.prog X.w _ _ _ (.tup [V.str _,V.str _,V.str _]) from ⟨by show 3<=sizeLine;decide,_,vals3S,IsTup.new _ _⟩),rfl,q _ (I.hok.fresh (Nat.le_refl _))⟩
 | cons i r=>
  rw [hc] at q
  exact⟨.ref s.heap.objs.size,_,I.laid (t':=s.toks+1+1) (fun b ob q=>Heap.get?_push_of_some _ q) (Nat.le_refl _) (show ObjOk X.prog X.w _ _ _ (.tup [V.str _,V.str _,V.str _]) from ⟨by show 3<=sizeLine;decide,_,vals3S,IsTup.new _ _⟩),rfl,q _ (I.hok.fresh (Nat.le_refl _))⟩
theorem strs_vals:∀(xs:List Str) (its:List Value),Vals (xs.map V.str) its->∃l:List (Str×Tok),strValues l=its∧l.map (·.1)=xs
 | [],its,h=>by cases h;exact⟨[],rfl,rfl⟩
 | x :: xs,its,h=>by
  cases h with
  | cons r rr=>
   obtain⟨t,rfl⟩:=r
   obtain⟨l,e1,e2⟩:=strs_vals xs _ rr
   exact⟨(x,t) :: l,by rw [← e1];rfl,by rw [← e2];rfl⟩
def rJoin (K:W.Frag):V->List V->Hp->VK->Prop:=fun x vs H Q=>∃a p xs,x=.str a∧vs=[.ref p]∧SqL K H p (xs.map V.str)∧(xs.map (·.length)).sum+xs.length * a.length<=100000∧Q (.str (Txt.join a xs)) H
theorem mt_join:MtR X "str.join" (rJoin X.K):=by
 intro pins s σ H x xs v us Q I rx rs h
 obtain⟨a,p,ys,rfl,rfl,hp,hl,q⟩:=h
 obtain⟨t,rfl⟩:=rx
 obtain⟨u,rfl,ru⟩:=Vals.one rs
 cases ru
 obtain⟨its,r',pl,hz⟩:=I.list hp
 obtain⟨l,e1,e2⟩:=strs_vals ys its r'
 have tl:Builtin.Str.tooLong ((l.map (·.1)).toArray.foldl (·+·.length+a.length) 0)=false:=by
  rw [StrLaws.joinTotal,e2]
  unfold Builtin.Str.tooLong
  have sz:(100000:Nat)<=sizeLine:=by decide
  exact decide_eq_false (by omega)
 refine call_meets F.slot_str_join (typeIs_str _ _ _) F.entry_str_join (F.args_str_join_2 _ _) (meets_str_join_list a t p l tl) ⟨by rw [e1];exact pl.isList,?_⟩
 refine post_join l ⟨joinFit_length tl,fun t' k=>?_⟩
 rw [e2]
 exact⟨.str _,H,I.tok _,⟨_,rfl⟩,q⟩
def rSlS:V->Option Int->Option Int->Hp->VK->Prop:=fun x lo hi H Q=>∃z,x=.str z∧z.length<=100000∧Q (.str (Txt.slice z lo hi)) H
theorem part_of {vl:Value} {lo:Option Int} (h:IsPart vl lo):∃p:Option (Int×Tok),vl=partValue p∧p.map (·.1)=lo:=by
 cases h with
 | none=>exact⟨none,rfl,rfl⟩
 | int i t=>exact⟨some (i,t),rfl,rfl⟩
theorem sl_str:SlR X rSlS:=by
 intro pins s σ H x v vl vu lo hi sl Q I rx hs pl pu h
 obtain⟨z,rfl,lz,q⟩:=h
 obtain⟨t,rfl⟩:=rx
 obtain⟨l,rfl,el⟩:=part_of pl
 obtain⟨u,rfl,eu⟩:=part_of pu
 refine⟨"str",_,F.slot_str_getitem.lookup,typeIs_str _ _ _,?_⟩
 refine wpAny_getItem_str_slice (l:=l) (u:=u) (st:=none) hs rfl ?_
 refine post_val_or_str ⟨Nat.le_trans (Txt.slice_le z _ _) (Nat.le_trans lz (by decide)),fun t' k=>?_⟩
 show EP X pins σ Q (.str (Txt.slice z (l.map (·.1)) (u.map (·.1))) t') _
 rw [el,eu]
 exact⟨.str _,H,I.tok _,⟨_,rfl⟩,q⟩
def ipS:TIp:=fun x y H Q=>∃i j,x=.str i∧y=.str j∧i.length+j.length<=sizeLine∧Q (.str (i++j)) H
theorem ip_addS:PIp X .Add ipS:=iop_add_str
end
def PIZ (X:Cx) (tg iter:Expr) (wi:TI):Prop:=
 ∀(pins:List (Addr×Obj)) (s:Shared) (σ:St) (H:Hp) (R:It->Hp->Prop),Inv X pins σ H s->s.toks≠0->wi σ H R->
  wpAny (model X.prog X.w) X.A (eval iter X.env) (fun v s1=>wpAny (model X.prog X.w) X.A (pyIter v) (PIE X pins σ tg R) X.xe s1) X.xe s
def PSZ (X:Cx) (st:Stmt) (t:TS):Prop:=
 ∀(pins:List (Addr×Obj)) (s:Shared) (σ:St) (H:Hp) (D:Ends),Inv X pins σ H s->s.toks≠0->t D σ H->wpAny (model X.prog X.w) X.A (exec st X.env) (SP X pins D) X.xe s
def PEZ (X:Cx) (e:Expr) (te:TE):Prop:=
 ∀(pins:List (Addr×Obj)) (s:Shared) (σ:St) (H:Hp) (Q:VK),Inv X pins σ H s->s.toks≠0->te σ H Q->wpAny (model X.prog X.w) X.A (eval e X.env) (EP X pins σ Q) X.xe s
section
variable {X:Cx} {tg:Expr}
theorem ps_forZ {iter:Expr} {body:List Stmt} {wi:TI} {g:TG} {tb:TS} {pos:Pos} (hp:PassesOwn (model X.prog X.w) X.A X.env X.xe) (hc:X.calm=true) (hi:PIZ X tg iter wi) (hg:PG X tg g) (hb:PSs X body tb)
  (hs:∀x,foldedSetIterable iter X.env x=pure x:=by intro _;rfl):PSZ X (.For tg iter body [] pos) (tFor wi g tb):=by
 intro pins s σ H D I tk h
 refine wpAny_For (thn (hi pins s σ H _ I tk h) fun v s1 h1=>thn h1 fun itv s2 h2=>?_) hs
 obtain⟨it,fp,tn,J,H2,e,I2,T,st2,f2,W,⟨m0,w0⟩,turn⟩:=h2
 subst e
 have stat:∀{H':Hp},(∀b∈fp,H' b=none)->∀b∈fp,FpOk X pins H' b:=fun hn b hb=>⟨hn b hb,(f2 b hb).2⟩
 refine codeAny_forLoop_any (fun n s'=>∃i σ' H',Inv X pins σ' H' s'∧tn i s'.heap∧(∀b∈fp,H' b=none)∧W i n σ' H') ?_ m0 ⟨0,σ,H2,I2,st2,fun b hb=>(f2 b hb).1,w0⟩
 rintro n s3 ⟨i,σ3,H3,I3,st3,fr3,w3⟩
 rcases turn i n σ3 H3 w3 with ⟨stop,qn⟩ | ⟨go,N,hN,step⟩
 ·refine wpAny_passesOwn hp (thn (T.done X rfl rfl rfl hc i pins s3 σ3 H3 X.xe I3 (stat fr3) st3 stop) fun r s4 ⟨hr,I4⟩=>?_)
  subst hr
  exact wpAny_execs_nil ⟨σ3,H3,I4,qn⟩
 ·refine wpAny_passesOwn hp (thn (T.item X rfl rfl rfl hc i pins s3 σ3 H3 X.xe I3 (stat fr3) st3 go) fun r s4 ⟨u,hr,h4⟩=>?_)
  subst hr
  refine wpAny_passesOwn hp (thn h4 fun _ s5 ⟨x,H5,I5,r5,y5,st5,fr5⟩=>?_)
  have I5':=I5.pinned (stat fr5) (T.obj _ _ st5)
  refine wpAny_passesOwn hp (thn (hg _ s5 σ3 H5 x u _ I5' r5 (step x H5 y5)) fun _ s6 ⟨σ6,H6,I6,q6⟩=>?_)
  refine wpAny_passesOwn hp (thn (hb _ s6 σ6 H6 _ I6 q6) fun f s7 q7=>?_)
  have again:∀{σ7:St} {H7:Hp},Inv X (pins++pinsAt fp s5.heap) σ7 H7 s7->N σ7 H7->∃m,m < n∧∃i σ' H',Inv X pins σ' H' s7∧tn i s7.heap∧(∀b∈fp,H' b=none)∧W i m σ' H':=fun {σ7 H7} I7 n7=>by
   obtain⟨m',hm,w7⟩:=hN σ7 H7 n7
   refine⟨m',hm,i+1,σ7,H7,I7.unpinned,T.keep _ _ _ st5 fun b hb o e=>(I7.pin (b,o) (List.mem_append_right _ (List.mem_append_right _ (mem_pinsAt hb e)))).1,fun b hb=>?_,w7⟩
   obtain⟨o,e,d⟩:=T.obj _ _ st5 b hb
   exact (I7.pin (b,o) (List.mem_append_right _ (List.mem_append_right _ (mem_pinsAt hb e)))).2.1
  cases f with
  | next=>obtain⟨σ7,H7,I7,n7⟩:=q7;exact again I7 n7
  | cont=>obtain⟨σ7,H7,I7,n7⟩:=q7;exact again I7 n7
  | brk=>obtain⟨σ7,H7,I7,q7⟩:=q7;exact⟨σ7,H7,I7.unpinned,q7⟩
  | ret v=>obtain⟨x7,σ7,H7,I7,r7,q7⟩:=q7;exact⟨x7,σ7,H7,I7.unpinned,r7,q7⟩
theorem pi_listZ {l:Expr} {tl:TE} (hl:PEZ X l tl):PIZ X tg l (iList X.K tl):=by
 intro pins s σ H R I tk h
 refine thn (hl pins s σ H _ I tk h) fun v s1 ⟨x,H1,I1,r1,q1⟩=>?_
 obtain⟨a,e,⟨xs,hq⟩,q⟩:=q1
 subst e
 cases r1
 obtain⟨its,rv,p,hz⟩:=I1.list hq
 refine wpAny_pyIter_list p.isList ?_
 refine⟨s1.heap.objs.size,[s1.heap.objs.size],_,_,H1,rfl,I1.kept (t':=s1.toks) fun b o e=>Heap.get?_push_of_some _ e,turn_list a _,⟨_,Heap.get?_push_size _ rfl,rfl,rfl⟩,fun b hb=>?_,q⟩
 have e:b=s1.heap.objs.size:=by simpa using hb
 subst e
 exact I1.fpOk (Nat.le_refl _) (I1.hok.fresh (Nat.le_refl _))
end
section
variable {o e:Expr} {es:List Expr} {to:TE} {t:TA} {name:Str} {apos cpos:Pos} {T id:String} {r:V->List V->Hp->VK->Prop}
theorem pe_bmZ (pa:PlainAttrs T) (slot:Slot T name id) (hty:typeOf (.builtin id)=pure (.type "method_descriptor")) (hm:MtR X id r) (ho:PEZ X o to) (ha:PA X (e :: es) t)
  (hbase:attributeBase o name X.env (eval o X.env)=eval o X.env:=by rfl)
  (hfew:((backTo cpos (starEach (e :: es) X.env)).all (fun x=>!x.1) && (backToKw cpos (keywordEach [] X.env)).all (fun x=>x.1.isSome)
   && decide ((e :: es).length+([]:List Keyword).length+(if ([]:List Keyword).isEmpty then 0 else 1) < 30))=true:=by rfl)
  (hline:(apos.endLine == cpos.line)=true:=by rfl) (hs:starEach (e :: es) X.env=(false,eval e X.env) :: starEach es X.env:=by rfl) (hplain:(backTo cpos (starEach es X.env)).any (·.1)=false:=by rfl):
  PEZ X (.Call (.Attribute o name apos) (e :: es) [] cpos) (tBM X.K T r to t):=by
 intro pins s σ H Q I tk h
 refine wpAny_Call_method_late hbase hfew hline rfl (thn (ho pins s σ H _ I tk h) fun v s1 ⟨x,H1,I1,r1,ty,q1⟩=>?_)
 obtain⟨h1,h2⟩:=tyV_is I1 r1 ty
 refine⟨T,id,pa,slot,hty,h1,h2,?_⟩
 have hA:=ha cpos pins s1 σ H1 _ I1 q1
 rw [hs] at hA ⊢
 refine Calls.callWith_builtin (by show (false || (backTo cpos (starEach es X.env)).any (·.1))=false;rw [hplain] <;> rfl) (Calls.evalArgs_plain ?_)
 exact thn hA fun us s2 ⟨vs,H2,I2,r2,q2⟩=>hm pins s2 σ H2 x vs v us Q I2 r1 r2 q2
end
section
variable {X:Cx} {pins:List (Addr×Obj)} {σ:St} {H:Hp} {s:Shared}
theorem store_okT {M:Model} {A:Around} {E:Value->Shared->Prop} {i:Nat} {x:Str} {v:V} {u:Value} {Q:Unit->Shared->Prop} (I:Inv X pins σ H s) (hN:X.N.Nodup) (hi:X.N[i]?=some x) (hk:X.env.scope.names.lookup x=some .local) (r:RelV v u)
  (h:∀s',Inv X pins (σ.set i (some v)) H s'->s'.toks≠0->Q () s'):wpAny M A (storeName X.env x u) Q E s:=by
 obtain⟨m,hn,hl⟩:=id I.loc
 have hcls:(X.env.scope.kind == .class || (X.env.scope.kind == .module && X.env.locals != X.env.globals))=false:=by rw [I.ok.kind];rfl
 have hiσ:i < σ.length:=by rw [I.len];exact (List.getElem?_eq_some_iff.mp hi).1
 have cne:=I.cne
 have tracked:∀{a:Addr} {h':Heap},(∃o,s.heap.get? a=some o∧H a=none)->Heap.SameBut a s.heap h'->HOk X.prog X.w H h':=fun {a h'} ha hs b ob e=>by
  obtain⟨_,_,hfree⟩:=ha
  refine (I.hok b ob e).stay (fun c w' hc q=>(hs.2 c ?_).trans q) (fun _ q=>q) fun _ _ q=>q
  rintro rfl
  rcases hc with rfl | hc
  ·rw [hfree] at e;cases e
  ·rw [hfree] at hc;cases hc
 refine wpAny_storeName_local hk hn (fun h' hn' hs=>?_) hcls
 obtain⟨oL,_,_,hoL,_⟩:=id hn
 refine h _ ⟨I.ok,I.os,I.bare,⟨fun b o e n hb hx=>?_,fun b o e n hb hx=>?_,I.base.free,fun b o e hx=>?_,I.base.tups,I.base.frzs,I.base.tbls⟩,⟨_,hn',fun j y v' e1 e2 e3=>?_⟩,fun y c e=>?_,I.free,I.freeC,fun p hp=>?_,tracked ⟨oL,hoL,I.free⟩ hs,by simpa using I.len⟩ (Nat.succ_ne_zero _)
 ·exact (hs.2 b (Nat.ne_of_lt (Nat.lt_of_lt_of_le (Heap.lt_size e) I.ok.above))).trans (I.base.keep b o e n hb hx)
 ·obtain⟨sl,e1⟩:=I.base.slot b o e n hb hx
  exact⟨sl,(hs.2 b (Nat.ne_of_lt (Nat.lt_of_lt_of_le (Heap.lt_size e) I.ok.above))).trans e1⟩
 ·obtain⟨o',e1⟩:=I.base.there b o e hx
  exact⟨o',(hs.2 b (Nat.ne_of_lt (Nat.lt_of_lt_of_le (Heap.lt_size e) I.ok.above))).trans e1⟩
 ·by_cases hj:j=i
  ·subst hj
   rw [hi] at e1;cases e1
   rw [List.getElem?_set_self hiσ] at e2
   cases e2
   exact⟨u,r,.inl ⟨hk,by simp⟩⟩
  ·rw [List.getElem?_set_ne (Ne.symm hj)] at e2
   obtain⟨u',r',q⟩:=hl j y v' e1 e2 e3
   refine⟨u',r',?_⟩
   rcases q with ⟨k,e⟩ | ⟨k,c,e,z⟩
   ·refine .inl ⟨k,?_⟩
    have:y≠x:=fun e=>hj (nodup_ix hN e1 (e ▸ hi))
    simp [this,e]
   ·exact .inr ⟨k,c,e,z.sameBut hs (cne y c e)⟩
 ·obtain⟨w',z⟩:=I.cell y c e
  exact⟨w',z.sameBut hs (cne y c e)⟩
 ·obtain⟨e,n,ne,nf,d⟩:=I.pin p hp
  exact⟨(hs.2 p.1 ne).trans e,n,ne,nf,d⟩
end
def PST (X:Cx) (st:Stmt) (t:TS):Prop:=
 ∀(pins:List (Addr×Obj)) (s:Shared) (σ:St) (H:Hp) (D:Ends),Inv X pins σ H s->t D σ H->wpAny (model X.prog X.w) X.A (exec st X.env) (fun f s'=>SP X pins D f s'∧s'.toks≠0) X.xe s
section
variable {X:Cx} {pos:Pos}
theorem ps_setT {i:Nat} {x:Str} {e:Expr} {te:TE} {pos':Pos} (hN:X.N.Nodup) (hi:X.N[i]?=some x) (hk:X.env.scope.names.lookup x=some .local) (he:PE X e te) (hs:swapsWith e (some (.Name x pos')) pos.line X.env=pure false:=by rfl):
  PST X (.Assign [.Name x pos'] e pos) (tAsg te (gName i)):=by
 intro pins s σ H D I h
 refine wpAny_Assign_Name (thn (he pins s σ H _ I h) fun v s1 q=>?_) hs
 obtain⟨y,H1,I1,r1,q1⟩:=q
 exact store_okT I1 hN hi hk r1 fun s2 I2 tk=>⟨⟨_,H1,I2,q1⟩,tk⟩
theorem pss_consZ {st st2:Stmt} {rest:List Stmt} {t t2 u:TS} (h1:PST X st t) (h2:PSZ X st2 t2) (h3:PSs X rest u):PSs X (st :: st2 :: rest) (tSeq t (tSeq t2 u)):=by
 intro pins s σ H D I h
 refine wpAny_execs_cons (thn (h1 pins s σ H { D with nx:=(tSeq t2 u) D } I h) fun f s1 q=>?_)
 cases f with
 | next=>
  obtain⟨⟨σ',H',I',q⟩,tk⟩:=q
  refine wpAny_execs_cons (thn (h2 pins s1 σ' H' { D with nx:=u D } I' tk q) fun f s2 q=>?_)
  cases f with
  | next=>
   obtain⟨σ',H',I',q⟩:=q
   exact h3 pins s2 σ' H' D I' q
  | ret v=>exact q
  | brk=>exact q
  | cont=>exact q
 | ret v=>exact q.1
 | brk=>exact q.1
 | cont=>exact q.1
theorem var_at {pins:List (Addr×Obj)} {s:Shared} {σ:St} {H:Hp} {i:Nat} {x:Str} {v:V} {E:Value->Shared->Prop} (I:Inv X pins σ H s) (e:σ[i]?=some (some v)) (hN:X.N[i]?=some x) (hk:X.env.scope.names.lookup x=some .local) (hd:(x == ("__debug__" : Str))=false):
  wpAny (model X.prog X.w) X.A (eval (.Name x pos) X.env) (fun u s'=>s'=s∧RelV v u) E s:=by
 obtain⟨m,hn,hl⟩:=I.loc
 obtain⟨u,r,l⟩:=hl i x v hN e (.inl hk)
 rcases l with ⟨_,hm⟩ | ⟨h,_⟩
 ·exact wpAny_Name (wpAny_loadName_local I.ok.kind hk hn hm ⟨rfl,r⟩) hd
 ·have hk':X.env.kindOf x=some .local:=hk
  rcases h with h | h <;> rw [hk'] at h <;> cases h
def tRepl (i:Nat) (y z:Str):TE:=fun σ H Q=>∃a,σ[i]?=some (some (.str a))∧a.length<=100000∧Q (.str (Txt.replace a y z)) H
theorem pe_replZ {i:Nat} {x y z:Str} {apos cpos p1 p2 p3:Pos} {j1 j2:Nat} (hN:X.N[i]?=some x) (hk:X.env.scope.names.lookup x=some .local) (hyz:(y == z)=false) (hz:z.length<=14) (hd:(x == ("__debug__" : Str))=false:=by decide)
  (hbase:attributeBase (.Name x p1) "replace" X.env (eval (.Name x p1) X.env)=eval (.Name x p1) X.env:=by rfl)
  (hfew:((backTo cpos (starEach [.Constant (.str y) j1 p2,.Constant (.str z) j2 p3] X.env)).all (fun x=>!x.1) && (backToKw cpos (keywordEach [] X.env)).all (fun x=>x.1.isSome)
   && decide (([.Constant (.str y) j1 p2,.Constant (.str z) j2 p3]:List Expr).length+([]:List Keyword).length+(if ([]:List Keyword).isEmpty then 0 else 1) < 30))=true:=by rfl)
  (hline:(apos.endLine == cpos.line)=true:=by rfl)
  (hs:starEach [.Constant (.str y) j1 p2,.Constant (.str z) j2 p3] X.env=[(false,eval (.Constant (.str y) j1 p2) X.env),(false,eval (.Constant (.str z) j2 p3) X.env)]:=by rfl):
  PEZ X (.Call (.Attribute (.Name x p1) "replace" apos) [.Constant (.str y) j1 p2,.Constant (.str z) j2 p3] [] cpos) (tRepl i y z):=by
 intro pins s σ H Q I tk h
 obtain⟨a,e,la,q⟩:=h
 refine wpAny_Call_method_late hbase hfew hline rfl (thn (var_at I e hN hk hd) fun v s1 q1=>?_)
 obtain⟨rfl,t,rfl⟩:=q1
 refine⟨"str","str.replace",F.plainAttrs_str,F.slot_str_replace,F.type_str_replace,typeIs_str _ _ _,(fun _ e=>nomatch e),?_⟩
 rw [hs]
 refine Calls.callWith_builtin rfl (Calls.evalArgs_plain ?_)
 show wpAny _ _ (spliced [(false,eval (.Constant (.str y) j1 p2) X.env),(false,eval (.Constant (.str z) j2 p3) X.env)]) _ _ _
 refine Calls.spliced_cons (Calls.Constant_str (Calls.spliced_cons (Calls.Constant_str (Calls.spliced_nil ?_))))
 refine SC.replaceW tk (Nat.succ_ne_zero _) (Nat.ne_of_lt (Nat.lt_succ_self _)) hyz (by omega) hz fun t' k=>?_
 exact⟨.str _,H,I.tok _,⟨_,rfl⟩,q⟩
def Its (z:Str):It:=⟨fun i _=>i < z.cps.size,fun i H x H'=>H'=H∧∃c,z.cps[i]?=some c∧x=.str ⟨#[c]⟩,fun i _=>z.cps.size<=i⟩
theorem turn_str {P:Program} {w:World} {K:W.Frag} {tg:Expr} {z:Str} {t:Tok} {it:Addr} {ty:String} (hn:["enumerate","zip","dict_itemiterator","dict_reverseitemiterator","odict_iterator","itertools.zip_longest","itertools.pairwise"].contains ty=false)
  (W:∀A':Around,A'.handled=none->Walks P w A' it [it] [it] z.cps.size (SignAt z) (fun i h=>h.IsStrIter it ty z t i))
  (hs:∀(A:Around) (i:Nat) (s:Shared) (Q:Value->Shared->Prop) (E:Value->Shared->Prop),s.heap.IsStrIter it ty z t i->Q (.ref it) s->wpAny (model P w) A (pyIter (.ref it)) Q E s):Turn P w K tg (Its z) [it] it (fun i h=>i<=z.cps.size∧h.IsStrIter it ty z t i) where
 mem:=by simp
 obj:=fun i h st b hb=>by
  have e:b=it:=by simpa using hb
  subst e
  obtain⟨_,o,e,c,d⟩:=st
  exact⟨o,e,fun v z=>by rw [d] at z;cases z⟩
 keep:=fun i h h' st k=>⟨st.1,by obtain⟨_,o,e,r⟩:=st;exact⟨o,k it (by simp) o e,r⟩⟩
 item:=by
  intro X hP hw hK hc i pins s σ H E I hf st hg
  subst hP hw hK
  obtain⟨f0,f1,f2,f3,f4,f5⟩:=hf it (by simp)
  refine (W X.A (I.ok.hd hc)).item i s _ _ hg st.2 fun v h' tk hv st' kk=>?_
  obtain⟨c,u,hc',rfl⟩:=hv
  have I1:Inv X pins σ H { s with heap:=h',toks:=tk }:=I.turned (fun b o hb e=>kk b o (by simpa using hb) e) f0 f1 f3 f4 f5
  obtain⟨o,e,cl,d⟩:=id st'
  have hi:i < z.cps.size:=hg
  exact⟨_,rfl,go_of (s:={ s with heap:=h',toks:=tk }) e cl d hn ⟨.str ⟨#[c]⟩,H,I1,⟨u,rfl⟩,⟨rfl,c,hc',rfl⟩,⟨by omega,st'⟩,fun b hb=>(hf b hb).1⟩⟩
 done:=by
  intro X hP hw hK hc i pins s σ H E I hf st hg
  subst hP hw hK
  obtain⟨f0,f1,f2,f3,f4,f5⟩:=hf it (by simp)
  have hi:z.cps.size<=i:=hg
  have e:i=z.cps.size:=Nat.le_antisymm st.1 hi
  subst e
  exact (W X.A (I.ok.hd hc)).done s _ _ st.2 fun h' tk kk=>⟨rfl,I.turned (fun b o hb e=>kk b o (by simpa using hb) e) f0 f1 f3 f4 f5⟩
 self:=fun A i s Q E st h=>hs A i s Q E st.2 h
def iStr (tl:TE):TI:=fun σ H R=>tl σ H fun x H1=>∃z,x=.str z∧R (Its z) H1
theorem pi_str {tg l:Expr} {tl:TE} (hl:PE X l tl):PI X tg l (iStr tl):=by
 intro pins s σ H R I h
 refine thn (hl pins s σ H _ I h) fun v s1 q=>?_
 obtain⟨x,H1,I1,r1,z,rfl,q⟩:=q
 obtain⟨t,rfl⟩:=r1
 have fp:∀b∈[s1.heap.objs.size],FpOk X pins H1 b:=fun b hb=>by
  have e:b=s1.heap.objs.size:=by simpa using hb
  subst e
  exact I1.fpOk (Nat.le_refl _) (I1.hok.fresh (Nat.le_refl _))
 cases ha:z.cps.all (· < 128)
 ·exact wpAny_pyIter_wide ha ⟨s1.heap.objs.size,[s1.heap.objs.size],_,_,H1,rfl,I1.kept (t':=s1.toks) fun b o e=>Heap.get?_push_of_some _ e,turn_str (by decide) (fun A' hA=>Walks.strWide hA _ z t) (fun _ _ _ _ _ st h=>wpAny_pyIter_striter_wide st h),⟨Nat.zero_le _,_,Heap.get?_push_size _ rfl,rfl,rfl⟩,fp,q⟩
 ·exact wpAny_pyIter_ascii ha ⟨s1.heap.objs.size,[s1.heap.objs.size],_,_,H1,rfl,I1.kept (t':=s1.toks) fun b o e=>Heap.get?_push_of_some _ e,turn_str (by decide) (fun A' hA=>Walks.strAscii hA _ z t) (fun _ _ _ _ _ st h=>wpAny_pyIter_striter_ascii st h),⟨Nat.zero_le _,_,Heap.get?_push_size _ rfl,rfl,rfl⟩,fp,q⟩
theorem meets_tindex3 (p:Addr) (v0 v1 v2 x:Value) (o:Obj) (hc:o.cls=.type "tuple") (hd:∃n,o.data=.seq [v0,v1,v2].toArray n) (b0 b1 b2:Bool) (j:Nat) (hj:(b0=true∧j=0)∨(b0=false∧b1=true∧j=1)∨(b0=false∧b1=false∧b2=true∧j=2)):
  Meets (Builtin.«tuple.index» ⟨[.ref p,x],[]⟩) (fun A R s=>s.heap.get? p=some o∧SeqAt.EqAt A.in1 s v0 x b0∧SeqAt.EqAt A.in1 s v1 x b1∧SeqAt.EqAt A.in1 s v2 x b2∧R (.ok (.ret (.int j s.toks))) { s with toks:=s.toks+1 }):=by
 intro prog w A R s h
 obtain⟨hp,e0,e1,e2,h⟩:=h
 obtain⟨n,hd⟩:=hd
 obtain⟨cl,dd,da,sl⟩:=o
 cases hc
 cases hd
 unfold Builtin.«tuple.index»
 simp only [Std.Legacy.Range.forIn_eq_forIn_range']
 refine wpAny_bind (wpAny_of_eq rfl ?_)
 refine wpAny_bind (wpAny_tupleItemsOf hp rfl ?_)
 dsimp only
 refine wpAny_bind (wpAny_pure ?_)
 refine wpAny_bind (wpAny_pure ?_)
 rw [show List.range' 0 (Std.Legacy.Range.size [0:min #[v0,v1,v2].size #[v0,v1,v2].size])=[0,1,2] by simp [Std.Legacy.Range.size,List.range']]
 refine wpAny_bind ?_
 rw [List.forIn_cons]
 refine wpAny_bind (wpAny_bind (e0 prog w _ _ ?_))
 cases b0 with
 | true=>
  obtain rfl:j=0:=by simpa using hj
  rw [if_pos rfl]
  exact wpAny_bind (wpAny_bind (wpAny_mkInt (wpAny_pure (wpAny_pure (wpAny_pure (wpAny_pure h))))))
 | false=>
  rw [if_neg (by decide)]
  refine wpAny_pure ?_
  dsimp only
  rw [List.forIn_cons]
  refine wpAny_bind (wpAny_bind (e1 prog w _ _ ?_))
  cases b1 with
  | true=>
   obtain rfl:j=1:=by simpa using hj
   rw [if_pos rfl]
   exact wpAny_bind (wpAny_bind (wpAny_mkInt (wpAny_pure (wpAny_pure (wpAny_pure (wpAny_pure h))))))
  | false=>
   obtain⟨rfl,rfl⟩:b2=true∧j=2:=by simpa using hj
   rw [if_neg (by decide)]
   refine wpAny_pure ?_
   dsimp only
   rw [List.forIn_cons]
   refine wpAny_bind (wpAny_bind (e2 prog w _ _ ?_))
   rw [if_pos rfl]
   exact wpAny_bind (wpAny_bind (wpAny_mkInt (wpAny_pure (wpAny_pure (wpAny_pure (wpAny_pure h))))))
def rTIx (K:W.Frag):V->List V->Hp->VK->Prop:=fun x vs H Q=>∃(p:Addr) (a b c z:Str) (j:Nat),x=.ref p∧vs=[.str z]∧SqT K H p [.str a,.str b,.str c]∧((a=z∧j=0)∨(a≠z∧b=z∧j=1)∨(a≠z∧b≠z∧c=z∧j=2))∧Q (.int j) H
theorem mt_tindex:MtR X "tuple.index" (rTIx X.K):=by
 intro pins s σ H x xs v us Q I rx rs h
 obtain⟨p,a,b,c,z,j,rfl,rfl,hp,hj,q⟩:=h
 cases rx
 obtain⟨u,rfl,ru⟩:=Vals.one rs
 obtain⟨its,r,pl,hz⟩:=I.tuple hp
 cases r with
 | cons r0 r=>
  cases r with
  | cons r1 r=>
   cases r with
   | cons r2 r=>
    cases r
    have pl':s.heap.IsTuple p _:=pl
    obtain⟨o,e1,e2,n,e3⟩:=pl'
    refine call_meets F.slot_tuple_index ⟨o,e1,e2⟩ F.entry_tuple_index (F.args_tuple_index_2 _ _) (meets_tindex3 p _ _ _ u o e2 ⟨n,e3⟩ (decide (a=z)) (decide (b=z)) (decide (c=z)) j (by simpa using hj)) ⟨e1,?_,?_,?_,.int j,H,I.tok _,⟨_,rfl⟩,q⟩
    ·have:=eqAt_V (A:=X.A.in1) (s:=s) r0 ru rfl rfl;rw [show decide (a=z)=(a == z) from (Bool.beq_eq_decide_eq a z).symm];exact this
    ·have:=eqAt_V (A:=X.A.in1) (s:=s) r1 ru rfl rfl;rw [show decide (b=z)=(b == z) from (Bool.beq_eq_decide_eq b z).symm];exact this
    ·have:=eqAt_V (A:=X.A.in1) (s:=s) r2 ru rfl rfl;rw [show decide (c=z)=(c == z) from (Bool.beq_eq_decide_eq c z).symm];exact this
def isNonV:V->Bool
 | .non=>true
 | _=>false
def isNonU:Value->Bool
 | .none=>true
 | _=>false
theorem any_non:∀{xs:List V} {its:List Value},Vals xs its->(∀x∈xs,x=.non∨∃a,x=.ref a)->its.any isNonU=xs.any isNonV
 | _,_,.nil,_=>rfl
 | _,_,.cons (a:=x) (b:=u) r rr,h=>by
  rw [List.any_cons,List.any_cons,any_non rr fun y hy=>h y (.tail _ hy)]
  congr 1
  rcases h x (.head _) with rfl | ⟨a,rfl⟩
  ·have:u=Value.none:=r
   rw [this];rfl
  ·have:u=Value.ref a:=r
   rw [this];rfl
def rNoneIn (K:W.Frag):R2:=fun x y H Q=>∃p xs,x=.non∧y=.ref p∧SqL K H p xs∧(∀z∈xs,z=.non∨∃a ys,z=.ref a∧SqT K H a ys)∧Q (.bl (xs.any isNonV)) H
theorem op_noneIn (hu:X.A.units+64 < cLine):OpR X (compareOp .In) (rNoneIn X.K):=by
 intro pins s σ H x y v u Q I rx ry h
 obtain⟨p,xs,rfl,rfl,hq,hx,q⟩:=h
 cases ry
 have rx':v=Value.none:=rx
 subst rx'
 obtain⟨its,r,pl,hz⟩:=I.list hq
 refine SeqAt.in_listAt isNonU pl.isList (fun w hw=>?_) ⟨.bl _,H,I,rfl,?_⟩
 ·obtain⟨i,hi,rfl⟩:=List.mem_iff_getElem.mp (show w∈its by simpa using hw)
  have hl:=r.length
  obtain⟨u,hu',ru⟩:=r.get (List.getElem?_eq_getElem (show i < xs.length by omega))
  rw [List.getElem?_eq_getElem hi] at hu'
  cases Option.some.inj hu'
  rcases hx _ (List.getElem_mem (show i < xs.length by omega)) with z | ⟨a,ys,z,ht⟩
  ·rw [z] at ru
   have e:its[i]=Value.none:=ru
   rw [e]
   exact eqAt_V (y:=.non) (x:=.non) rfl rfl rfl rfl
  ·rw [z] at ru
   have e:its[i]=Value.ref a:=ru
   rw [e]
   obtain⟨its',r',pl',hz'⟩:=I.tuple ht
   exact SeqAt.EqAt.tuple_none (show s.heap.IsTuple a its'.toArray from pl') (by show X.A.units+1 < cLine;omega)
 ·rw [show its.toArray.any isNonU=its.any isNonU by simp,any_non r fun z hz=>by
   rcases hx z hz with z | ⟨a,_,z,_⟩
   ·exact .inl z
   ·exact .inr ⟨a,z⟩]
  exact q
def rCatS:R2:=fun x y H Q=>∃i j,x=.str i∧y=.str j∧i.length+j.length<=sizeLine∧Q (.str (i++j)) H
theorem op_catS:OpR X (binaryOp .Add) rCatS:=op_add_str
def rInT:R2:=fun x y H Q=>∃i j,x=.str i∧y=.str j∧Q (.bl (!(Builtin.Str.occurrences j i 0 j.length 1).isEmpty)) H
theorem op_inT:OpR X (compareOp .In) rInT:=op_in_str
theorem bt_str:bootBuiltins "str" = some (.type "str"):=by decide +kernel
end
section
variable {K:W.Frag} {σ:St} {H:Hp} {Q:VK} {x y:V} {vs:List V} {lo hi:Option Int} {i:Nat} {y' z':Str} {tl:TE} {R:It->Hp->Prop}
theorem a_starts:rStarts x vs H Q=∃a b,x=.str a∧vs=[.str b]∧Q (.bl (Txt.startswith a b)) H:=rfl
theorem a_ends:rEnds x vs H Q=∃a b,x=.str a∧vs=[.str b]∧Q (.bl (Txt.endswith a b)) H:=rfl
theorem a_split:rSplit x vs H Q=∃a b,x=.str a∧vs=[.str b]∧b.length≠0∧a.length<=100000∧(Txt.split a b).length<=100000∧newS H Q (Txt.split a b):=rfl
theorem a_partition:rPartition x vs H Q=∃a b,x=.str a∧vs=[.str b]∧b.length≠0∧a.length<=100000∧∀p,H p=none->Q (.ref p) (upd H p (.tup [.str (Txt.partition a b).1,.str (Txt.partition a b).2.1,.str (Txt.partition a b).2.2])):=rfl
theorem a_intS:rIntS vs H Q=∃a n,vs=[.str a]∧a.length<=640∧PySem.intText? a=some n∧Q (.int n) H:=rfl
theorem a_join:rJoin K x vs H Q=∃a p xs,x=.str a∧vs=[.ref p]∧SqL K H p (xs.map V.str)∧(xs.map (·.length)).sum+xs.length * a.length<=100000∧Q (.str (Txt.join a xs)) H:=rfl
theorem a_slS:rSlS x lo hi H Q=∃z,x=.str z∧z.length<=100000∧Q (.str (Txt.slice z lo hi)) H:=rfl
theorem a_ipS:ipS x y H Q=∃i j,x=.str i∧y=.str j∧i.length+j.length<=sizeLine∧Q (.str (i++j)) H:=rfl
theorem a_repl:tRepl i y' z' σ H Q=∃a,σ[i]?=some (some (.str a))∧a.length<=100000∧Q (.str (Txt.replace a y' z')) H:=rfl
theorem a_istr:iStr tl σ H R=tl σ H fun x H1=>∃z,x=.str z∧R (Its z) H1:=rfl
theorem a_tix:rTIx K x vs H Q=∃(p:Addr) (a b c z:Str) (j:Nat),x=.ref p∧vs=[.str z]∧SqT K H p [.str a,.str b,.str c]∧((a=z∧j=0)∨(a≠z∧b=z∧j=1)∨(a≠z∧b≠z∧c=z∧j=2))∧Q (.int j) H:=rfl
theorem a_noneIn:rNoneIn K x y H Q=∃p xs,x=.non∧y=.ref p∧SqL K H p xs∧(∀z∈xs,z=.non∨∃a ys,z=.ref a∧SqT K H a ys)∧Q (.bl (xs.any isNonV)) H:=rfl
theorem a_catS:rCatS x y H Q=∃i j,x=.str i∧y=.str j∧i.length+j.length<=sizeLine∧Q (.str (i++j)) H:=rfl
theorem a_inT:rInT x y H Q=∃i j,x=.str i∧y=.str j∧Q (.bl (!(Builtin.Str.occurrences j i 0 j.length 1).isEmpty)) H:=rfl
theorem a_ixS:rIxS x y H Q=∃z i c,x=.str z∧y=.int i∧z.length<=sizeLine∧atI z.cps.toList i=some c∧Q (.str ⟨#[c]⟩) H:=rfl
theorem a_neS {x y:Str}:rNe (.str x) (.str y) H Q=Q (.bl (!decide (x=y))) H:=by
 show (true=true∧Q (.bl (!decide (V.str x=V.str y))) H)=_
 rw [show decide (V.str x=V.str y)=decide (x=y) by rw [dec_str];exact Bool.beq_eq_decide_eq x y]
 simp
theorem a_tyS {T:String} {z:Str}:tyV K T (.str z) H=(T = "str"):=rfl
end
end L2
namespace My
def co (xs:List Int) (k:Nat):Int:=xs.getD k 0
end My
namespace My
def sumN:Nat->(Nat->Int)->Int
 | 0,_=>0
 | n+1,f=>sumN n f+f n
end My
namespace My
def val (n:Int):List Int->Int
 | []=>0
 | c :: r=>c+n * val n r
def hd (xs:List Int):Int:=xs.headD 0
end My
namespace My
end My
namespace My
end My
namespace My
theorem gcd_split {t b s:Int} (hb:b≠0) (hs:s=if b < 0 then -((Nat.gcd t.natAbs b.natAbs:Nat):Int) else ((Nat.gcd t.natAbs b.natAbs:Nat):Int)):
  s≠0∧s.natAbs=Nat.gcd t.natAbs b.natAbs∧t=s * t.fdiv s∧b=s * b.fdiv s∧1<=b.fdiv s∧Nat.gcd (t.fdiv s).natAbs (b.fdiv s).natAbs=1:=by
 have gp:0 < Nat.gcd t.natAbs b.natAbs:=Nat.gcd_pos_of_pos_right _ (by omega)
 have sa:s.natAbs=Nat.gcd t.natAbs b.natAbs:=by
  rw [hs];split
  ·rw [Int.natAbs_neg,Int.natAbs_natCast]
  ·rw [Int.natAbs_natCast]
 have s0:s≠0:=by intro z;rw [z] at sa;simp at sa;omega
 have dt:s∣t:=Int.natAbs_dvd_natAbs.mp (by rw [sa];exact Nat.gcd_dvd_left _ _)
 have db:s∣b:=Int.natAbs_dvd_natAbs.mp (by rw [sa];exact Nat.gcd_dvd_right _ _)
 obtain⟨c,hc⟩:=dt
 obtain⟨d,hd⟩:=db
 have ec:t.fdiv s=c:=by rw [hc];exact Int.mul_fdiv_cancel_left c s0
 have ed:b.fdiv s=d:=by rw [hd];exact Int.mul_fdiv_cancel_left d s0
 rw [ec,ed]
 refine⟨s0,sa,hc,hd,?_,?_⟩
 ·by_cases hn:b < 0
  ·rw [if_pos hn] at hs
   have:s < 0:=by omega
   rcases Int.lt_or_le 0 d with h | h
   ·omega
   ·have:=Int.mul_nonneg_of_nonpos_of_nonpos (Int.le_of_lt this) h
    omega
  ·rw [if_neg hn] at hs
   have:0 < s:=by omega
   rcases Int.lt_or_le 0 d with h | h
   ·omega
   ·have:=Int.mul_nonpos_of_nonneg_of_nonpos (Int.le_of_lt this) h
    omega
 ·have e1:t.natAbs=s.natAbs * c.natAbs:=by rw [← Int.natAbs_mul,← hc]
  have e2:b.natAbs=s.natAbs * d.natAbs:=by rw [← Int.natAbs_mul,← hd]
  have e3:=sa
  rw [e1,e2,Nat.gcd_mul_left] at e3
  have sp:0 < s.natAbs:=by omega
  exact Nat.eq_of_mul_eq_mul_left sp (by omega)
theorem fdiv_le {t s:Int} (s0:s≠0) (h:t=s * t.fdiv s):(t.fdiv s).natAbs<=t.natAbs:=by
 have e:t.natAbs=s.natAbs * (t.fdiv s).natAbs:=by rw [← Int.natAbs_mul,← h]
 rw [e]
 exact Nat.le_mul_of_pos_left _ (by omega)
end My
namespace My
def pm (f g:Nat->Int) (k:Nat):Int:=sumN (k+1) fun j=>f j * g (k - j)
end My
namespace My
end My
namespace My
end My
namespace My
def sh (g:Nat->Int) (j:Nat):Int:=if j=0 then 0 else g (j - 1)
def ev (p:Int) (f:Nat->Int):Nat->Nat->Int
 | 0,_=>0
 | n+1,s=>f s+p * ev p f n (s+1)
theorem ev_lin (p a b:Int) (f g:Nat->Int):∀n s,ev p (fun j=>a * f j - b * g j) n s=a * ev p f n s - b * ev p g n s
 | 0,_=>by simp [ev]
 | n+1,s=>by
  simp only [ev]
  rw [ev_lin p a b f g n (s+1),Int.mul_sub,Int.mul_add,Int.mul_add,← Int.mul_assoc p a,← Int.mul_assoc p b,Int.mul_comm p a,Int.mul_comm p b,Int.mul_assoc,Int.mul_assoc]
  omega
theorem down (p:Int) {K Z:Nat->Int} {e:Nat} (hK:∀j,e+1<=j->K j=0) (hZ:∀j,e<=j->Z j=0):
  ∃Z':Nat->Int,(∀j,e<=j->Z' j=0)∧∀j,p * Z' j - sh Z' j=ev p K (e+1) 0 * Z j - ev p Z (e+1) 0 * K j:=by
 let k0:=ev p K (e+1) 0
 let z0:=ev p Z (e+1) 0
 let F:Nat->Int:=fun j=>k0 * Z j - z0 * K j
 let v:Nat->Int:=fun j=>ev p F (e+1 - j) j
 have hF:∀j,e+1<=j->F j=0:=fun j hj=>by show k0 * Z j - z0 * K j=0;rw [hZ j (by omega),hK j hj];simp
 have hv:∀j,v j=F j+p * v (j+1):=fun j=>by
  show ev p F (e+1 - j) j=F j+p * ev p F (e+1 - (j+1)) (j+1)
  by_cases h:j<=e
  ·rw [show e+1 - j=(e - j)+1 by omega,show e+1 - (j+1)=e - j by omega];rfl
  ·rw [show e+1 - j=0 by omega,show e+1 - (j+1)=0 by omega,hF j (by omega)];simp [ev]
 have h0:v 0=0:=by
  show ev p (fun j=>k0 * Z j - z0 * K j) (e+1) 0=0
  rw [ev_lin]
  show k0 * z0 - z0 * k0=0
  rw [Int.mul_comm];omega
 refine⟨fun j=>- v (j+1),fun j hj=>?_,fun j=>?_⟩
 ·show - ev p F (e+1 - (j+1)) (j+1)=0
  rw [show e+1 - (j+1)=0 by omega];rfl
 ·show p * (- v (j+1)) - sh (fun j=>- v (j+1)) j=F j
  have a:=hv j
  unfold sh
  by_cases h:j=0
  ·subst h
   rw [if_pos rfl]
   rw [h0] at a
   rw [Int.mul_neg];omega
  ·rw [if_neg h]
   show p * (- v (j+1)) - (- v (j - 1+1))=F j
   rw [show j - 1+1=j by omega,Int.mul_neg];omega
section
variable {p:Int} {K L:Nat->Int} {e t M:Nat} (he:1<=e) (hK:∀j,e+1<=j->K j=0) (kt:K e≠0) (hL:∀j,t+1<=j->L j=0) (lt:L t≠0) (hM:∀j,(pm L K j).natAbs<=M) (hp:(ev p K (e+1) 0).natAbs+M+1 < p.natAbs)
include he hK kt hL lt hM hp
end
end My
namespace My
end My
namespace My
end My
namespace My
end My
namespace My
end My
namespace TX
open PySem PySem.Builtin PySem.Builtin.Str PySem.StrLaws
def S (l:List Nat):PySem.Str:=⟨l.toArray⟩
theorem S_list (l:List Nat):(S l).cps.toList=l:=by simp [S]
theorem S_of (x:PySem.Str):S x.cps.toList=x:=by simp [S]
theorem S_inj {a b:List Nat} (h:S a=S b):a=b:=by rw [← S_list a,h,S_list]
theorem S_eq {a b:List Nat}:(S a=S b)↔a=b:=⟨S_inj,fun h=>by rw [h]⟩
theorem S_len (l:List Nat):(S l).length=l.length:=by simp [S,PySem.Str.length]
theorem ext {x y:PySem.Str} (h:x.cps.toList=y.cps.toList):x=y:=by rw [← S_of x,h,S_of]
theorem S_app (a b:List Nat):S a++S b=S (a++b):=ext (by rw [PySem.Str.cps_append,Array.toList_append,S_list,S_list,S_list])
theorem at_S {l w:List Nat} {i:Nat}:At (S l) (S w) (S l).length i↔i+w.length<=l.length∧(l.drop i).take w.length=w:=by
 unfold At
 rw [subAt_eq,S_list,S_list,S_len,S_len]
 simp
theorem sub_S (l:List Nat) (i j:Nat):strSub (S l) i j=S ((l.drop i).take (j - i)):=ext (by rw [strSub_toList,S_list,S_list])
theorem starts_S (l w:List Nat):Txt.startswith (S l) (S w)=w.isPrefixOf l:=by
 unfold Txt.startswith
 rw [subAt_eq,S_list,S_list,S_len,S_len,List.drop_zero,Bool.eq_iff_iff,List.isPrefixOf_iff_prefix,List.prefix_iff_eq_take]
 simp only [Bool.and_eq_true,decide_eq_true_eq,beq_iff_eq]
 constructor
 ·intro h;exact h.2.symm
 ·intro h
  refine⟨?_,h.symm⟩
  have:=congrArg List.length h
  rw [List.length_take] at this
  omega
theorem ends_S (l w:List Nat):Txt.endswith (S l) (S w)=w.isSuffixOf l:=by
 unfold Txt.endswith
 rw [subAt_eq,S_list,S_list,S_len,S_len,Bool.eq_iff_iff,List.isSuffixOf_iff_suffix,List.suffix_iff_eq_drop]
 simp only [Bool.and_eq_true,decide_eq_true_eq,beq_iff_eq]
 constructor
 ·intro h
  rw [List.take_of_length_le (by rw [List.length_drop];omega)] at h
  exact h.2.symm
 ·intro h
  have:=congrArg List.length h
  rw [List.length_drop] at this
  refine⟨by omega,?_⟩
  rw [List.take_of_length_le (by rw [List.length_drop];omega)]
  exact h.symm
def jn (w:List Nat):List (List Nat)->List Nat
 | []=>[]
 | [p]=>p
 | p :: q :: r=>p++w++jn w (q :: r)
theorem jn_S (w:List Nat):∀ps:List (List Nat),PySem.Str.join (S w) (ps.map S)=S (jn w ps)
 | []=>rfl
 | [p]=>rfl
 | p :: q :: r=>by
  show S p++S w++PySem.Str.join (S w) ((q :: r).map S)=_
  rw [jn_S w (q :: r),S_app,S_app];rfl
theorem join_S (w:List Nat) (ps:List (List Nat)):Txt.join (S w) (ps.map S)=S (jn w ps):=by
 show glued (S w) _=_
 rw [glued_eq_join,jn_S]
theorem cut_one {w:List Nat} {c d:Nat} (hd:w[d]?=some c) (hw:∀e,w[e]?=some c->e=d):∀(ps:List (List Nat)) (pre l:List Nat) (cuts:List Nat) (f:Nat),ps≠[]->(∀p∈ps,c∉p)->l=pre++jn w ps->ChainG (S l) (S w) (S l).length pre.length cuts f->(∀k,f<=k->¬At (S l) (S w) (S l).length k)->
  partsFrom (S l) w.length pre.length cuts=ps.map S
 | [],_,_,_,_,h,_,_,_,_=>absurd rfl h
 | [p],pre,l,cuts,f,_,hp,e,hc,hn=>by
  have no:∀k,pre.length<=k->¬At (S l) (S w) (S l).length k:=fun k hk h=>by
   obtain⟨h1,h2⟩:=at_S.mp h
   have h3:l[k+d]?=some c:=by
    have dl:=(List.getElem?_eq_some_iff.mp hd).1
    rw [← h2,List.getElem?_take_of_lt dl,List.getElem?_drop] at hd
    exact hd
   rw [e,show jn w [p]=p from rfl,List.getElem?_append_right (by omega)] at h3
   exact hp p (by simp) (List.mem_of_getElem? h3)
  cases cuts with
  | nil=>
   show [strSub (S l) pre.length (S l).length]=[S p]
   rw [sub_S,S_len,e,show jn w [p]=p from rfl,List.drop_left,List.take_of_length_le (by simp)]
  | cons i r=>
   obtain⟨h1,h2,_⟩:=hc
   exact absurd h2 (no i h1)
 | p :: q :: r,pre,l,cuts,f,_,hp,e,hc,hn=>by
  have dl:=(List.getElem?_eq_some_iff.mp hd).1
  have el:l=(pre++p++w)++jn w (q :: r):=by rw [e];simp [jn]
  have here:At (S l) (S w) (S l).length (pre.length+p.length):=by
   rw [at_S]
   refine⟨by rw [el];simp;omega,?_⟩
   rw [e,show pre++jn w (p :: q :: r)=(pre++p)++(w++jn w (q :: r)) by simp [jn],← List.length_append,List.drop_left,List.take_left]
  cases cuts with
  | nil=>
   have z:f=pre.length:=hc
   exact absurd here (hn _ (by omega))
  | cons i s=>
   obtain⟨h1,h2,h3,h4⟩:=hc
   have hi:i=pre.length+p.length:=by
    rcases Nat.lt_trichotomy i (pre.length+p.length) with z | z | z
    ·exfalso
     obtain⟨h5,h6⟩:=at_S.mp h2
     have h7:l[i+d]?=some c:=by
      have h8:=hd
      rw [← h6,List.getElem?_take_of_lt dl,List.getElem?_drop] at h8
      exact h8
     rw [show l=pre++(p++(w++jn w (q :: r))) by rw [el];simp,List.getElem?_append_right (by omega)] at h7
     by_cases y:i+d - pre.length < p.length
     ·rw [List.getElem?_append_left y] at h7
      exact hp p (by simp) (List.mem_of_getElem? h7)
     ·rw [List.getElem?_append_right (by omega)] at h7
      rw [List.getElem?_append_left (by omega)] at h7
      have:=hw _ h7
      omega
    ·exact z
    ·exact absurd here (h3 _ (by omega) z)
   subst hi
   show strSub (S l) pre.length (pre.length+p.length) :: partsFrom (S l) w.length (pre.length+p.length+w.length) s=_
   have e2:(pre++p++w).length=pre.length+p.length+w.length:=by simp [Nat.add_assoc]
   have:=cut_one hd hw (q :: r) (pre++p++w) l s f (by simp) (fun x hx=>hp x (.tail _ hx)) el (by rw [e2,S_len] at *;exact h4) hn
   rw [e2] at this
   rw [this,sub_S,e,List.drop_left,Nat.add_sub_cancel_left]
   show S ((jn w (p :: q :: r)).take p.length) :: _=S p :: _
   rw [show jn w (p :: q :: r)=p++(w++jn w (q :: r)) by simp [jn],List.take_left]
theorem split_jn {w:List Nat} {c d:Nat} (hd:w[d]?=some c) (hw:∀e,w[e]?=some c->e=d) (sm:∀x∈w,x < 256) {ps:List (List Nat)} (h0:ps≠[]) (hp:∀p∈ps,c∉p):Txt.split (S (jn w ps)) (S w)=ps.map S:=by
 have dl:=(List.getElem?_eq_some_iff.mp hd).1
 obtain⟨f,h1,h2⟩:=occ_tight (S (jn w ps)) (S w) (by rw [S_len];omega)
 have key:=cut_one hd hw ps [] (jn w ps) _ f h0 hp rfl h1 h2
 unfold Txt.split
 have k1:strKind (S w)=1:=by
  unfold Builtin.Str.strKind
  rw [if_pos]
  simpa [S] using sm
 have k2:¬(strKind (S (jn w ps)) < strKind (S w)):=by
  rw [k1];unfold Builtin.Str.strKind;split <;> (try split) <;> omega
 by_cases z:(S (jn w ps)).length < (S w).length
 ·rw [if_pos (by simp [z])]
  rw [S_len,S_len] at z
  match ps,h0,hp,key,z with
  | [p],_,_,_,_=>rfl
  | p :: q :: r,_,_,_,z=>simp [jn] at z;omega
 ·rw [if_neg (by simp [z,k2])]
  cases ho:occurrences (S (jn w ps)) (S w) 0 (S (jn w ps)).length ((S (jn w ps)).length+1) with
  | nil=>
   rw [ho] at key
   rw [if_pos List.isEmpty_nil,← key]
   show [S (jn w ps)]=[strSub (S (jn w ps)) 0 (S (jn w ps)).length]
   rw [sub_S,S_len];simp
  | cons i r=>
   rw [if_neg (by simp),partsBetween_eq,S_len,← ho]
   exact key
end TX
namespace TX
open PySem PySem.Builtin PySem.Builtin.Str PySem.StrLaws
theorem part_yes {a b:List Nat} {c:Nat} (h:c∉a):Txt.partition (S (a++c :: b)) (S [c])=(S a,S [c],S b):=by
 have here:At (S (a++c :: b)) (S [c]) (S (a++c :: b)).length a.length:=by
  rw [at_S];refine⟨by simp,by simp⟩
 unfold Txt.partition
 rcases occ_head (S (a++c :: b)) (S [c]) 1 (Nat.le_refl _) with ⟨_,h2⟩ | ⟨i,r,h1,h2,h3⟩
 ·exact absurd here (h2 _)
 ·have hi:i=a.length:=by
   rcases Nat.lt_trichotomy i a.length with z | z | z
   ·obtain⟨_,h5⟩:=at_S.mp h2
    rw [List.drop_append_of_le_length (by omega)] at h5
    exfalso
    have h6:(a.drop i++c :: b)[0]?=some c:=by
     have:=congrArg (fun l:List Nat=>l[0]?) h5
     simpa using this
    rw [List.getElem?_append_left (by rw [List.length_drop];omega),List.getElem?_drop] at h6
    exact h (List.mem_of_getElem? h6)
   ·exact z
   ·exact absurd here (h3 _ z)
  subst hi
  rw [h1]
  show (strSub _ 0 a.length,S [c],strSub _ (a.length+(S [c]).length) _)=_
  rw [sub_S,sub_S,S_len,S_len]
  simp
  rw [List.take_of_length_le (by omega)]
theorem part_no {l:List Nat} {c:Nat} (h:c∉l):Txt.partition (S l) (S [c])=(S l,PySem.Str.empty,PySem.Str.empty):=by
 unfold Txt.partition
 rcases occ_head (S l) (S [c]) 1 (Nat.le_refl _) with ⟨h1,_⟩ | ⟨i,r,h1,h2,_⟩
 ·rw [h1]
 ·obtain⟨h4,h5⟩:=at_S.mp h2
  exfalso
  have h6:l[i]?=some c:=by
   have:=congrArg (fun l:List Nat=>l[0]?) h5
   simp only [List.length_cons,List.length_nil] at this
   rw [List.getElem?_take_of_lt (by omega),List.getElem?_drop] at this
   simpa using this
  exact h (List.mem_of_getElem? h6)
theorem one_get {c:Nat}:∀e,([c]:List Nat)[e]?=some c->e=0
 | 0,_=>rfl
 | e+1,h=>by simp at h
theorem repl_jn {c:Nat} {z:List Nat} (hc:c < 256) {ps:List (List Nat)} (h0:ps≠[]) (hp:∀p∈ps,c∉p):Txt.replace (S (jn [c] ps)) (S [c]) (S z)=S (jn z ps):=by
 have:=replace_one (S (jn [c] ps)) (S z) c
 rw [show (⟨#[c]⟩:PySem.Str)=S [c] from rfl] at this
 rw [this,split_jn (c:=c) (d:=0) rfl one_get (fun x hx=>by rw [List.mem_singleton.mp hx];exact hc) h0 hp,jn_S]
def sx (n d:Nat):Option Int->Nat
 | none=>d
 | some v=>if v < 0 then (v+(n:Int)).toNat else min v.toNat n
theorem sx_le (n:Nat) (o:Option Int):sx n n o<=n:=by
 cases o with
 | none=>exact Nat.le_refl _
 | some v=>show (if v < 0 then (v+(n:Int)).toNat else min v.toNat n)<=n;split <;> omega
theorem idx_S (l:List Nat) (lo hi:Option Int):strSliceIndices lo hi 1 (S l).length=sliceRange ((sx l.length 0 lo:Nat):Int) ((sx l.length l.length hi:Nat):Int) 1:=by
 unfold strSliceIndices
 rw [S_len]
 simp only [show (1:Int) > 0 by decide,if_true]
 cases lo with
 | none=>cases hi with
  | none=>rfl
  | some v=>simp only [sx];congr 1;split <;> omega
 | some u=>cases hi with
  | none=>simp only [sx];congr 1;split <;> omega
  | some v=>
   simp only [sx]
   congr 1
   ·split <;> omega
   ·split <;> omega
theorem slice_S (l:List Nat) (lo hi:Option Int):Txt.slice (S l) lo hi=S ((l.drop (sx l.length 0 lo)).take (sx l.length l.length hi - sx l.length 0 lo)):=by
 unfold Txt.slice
 rw [idx_S,sliceRange_one,pick_run,S_list]
 have hb:=sx_le l.length hi
 generalize sx l.length 0 lo=a at *
 generalize sx l.length l.length hi=b at *
 split
 ·rename_i h
  simp only [BEq.rfl,Bool.true_and,beq_iff_eq,List.length_map,List.length_range,S_len] at h
  by_cases y:l.length=0
  ·rw [List.eq_nil_of_length_eq_zero y];simp
  ·have a0:a=0:=by omega
   rw [a0,List.drop_zero,List.take_of_length_le (by omega)]
 ·rfl
def dg (m:Nat):List Nat:=(Nat.toDigits 10 m).map Char.toNat
def shI (n:Int):List Nat:=if n < 0 then 45 :: dg n.natAbs else dg n.natAbs
theorem dg_all (m:Nat):NumText.AllDigits (dg m):=by
 intro c hc
 obtain⟨ch,hch,e⟩:=List.mem_map.mp hc
 rw [← e]
 exact PyProof.Rows.digit_range (Nat.isDigit_of_mem_toDigits (by decide) (by decide) hch)
theorem dg_ne (m:Nat):dg m≠[]:=by
 intro e
 have h:=PySem.toDigits_len_ge 10 m
 rw [List.map_eq_nil_iff.mp e] at h
 exact absurd h (by decide)
theorem toS (n:Int):PySem.Str.ofString (toString n)=S (shI n):=by
 refine ext ?_
 rw [PyProof.Rows.signs_ofString,S_list]
 unfold shI dg
 cases n with
 | ofNat m=>
  rw [if_neg (by simp)]
  show (Nat.repr m).toList.map Char.toNat=_
  rw [Nat.toList_repr];rfl
 | negSucc m=>
  rw [if_pos (by omega)]
  show ("-" ++ Nat.repr (m+1)).toList.map Char.toNat=_
  rw [String.toList_append,Nat.toList_repr,List.map_append];rfl
theorem sh_ne (n:Int):shI n≠[]:=by unfold shI;split;simp;exact dg_ne _
theorem sh_mem {n:Int} {c:Nat} (h:c∈shI n):c=45∨(48<=c∧c<=57):=by
 unfold shI at h
 split at h
 ·rcases List.mem_cons.mp h with z | z
  ·exact .inl z
  ·exact .inr (dg_all _ c z)
 ·exact .inr (dg_all _ c h)
theorem dg_val (m:Nat):NumText.digitsVal (dg m)=m:=PySem.W.KIN.val_back m
theorem dg_len {m k:Nat} (h:m < 10 ^ k) (hk:0 < k):(dg m).length<=k:=by
 unfold dg
 rw [List.length_map]
 exact (Nat.length_toDigits_le_iff (by decide) hk).mpr h
theorem int_S {n:Int} (h:(shI n).length<=640):PySem.intText? (S (shI n))=some n:=by
 unfold shI at *
 split at h
 ·rename_i z
  rw [if_pos z] at *
  have:=intText_neg (x:=S (45 :: dg n.natAbs)) (cs:=dg n.natAbs) (S_list _) (dg_all _) (dg_ne _) (by rw [S_len];omega)
  rw [this,dg_val]
  congr 1;omega
 ·rename_i z
  rw [if_neg z] at *
  have:=intText_digits (x:=S (dg n.natAbs)) (by rw [S_list];exact dg_all _) (by rw [S_list];exact dg_ne _) (by rw [S_len];omega)
  rw [this,S_list,dg_val]
  congr 1;omega
end TX
namespace My
open PySem PySem.Spec PyProof.Rows L2
seal L2.PE L2.PS L2.PSs L2.PA
local macro_rules | `(tactic| k_units)=>`(tactic| ((try dsimp only [a_starts,a_ends,a_split,a_partition,a_intS,a_join,a_slS,a_ipS,a_repl,a_istr,a_tix,a_noneIn,a_catS,a_inT,a_ixS,a_neS,a_tyS,a_fld,a_sfld,a_meth,a_make,a_maxD,a_inS,a_ipC,a_izip,a_tComp2,a_izip3,a_tComp3,a_make0,a_eqS,a_izipB,a_tryAs,a_drop_nx,a_raise,a_try,a_fst,a_compIf,a_seq,a_next,a_brk,a_cnt,a_drop,a_ret,a_retN,a_if,a_asg,a_gname,a_gsub,a_gtup,a_gnil,a_gcons,a_aug,a_augS,a_ipI,a_var,a_c,a_op,a_un,a_rI,a_rI0,a_rU,a_eqI,a_neI,a_eqB,a_neB,a_tB,a_test,a_and,a_or,a_not,a_andV,a_orV,a_notV,a_ifE,a_chain,a_nil,a_cons,a_lst,a_tup,a_call,a_cb,a_bm0,a_bm,a_sl,a_nopart,a_part,a_tyI,a_for,a_comp,a_ilist,a_itup,a_irng1,a_irng2,a_irng3,a_cxK,a_irev,a_ienum,a_cat,a_rep,a_pop,a_clear,a_rslL,a_ixL,a_ixT,a_setL,a_app]);(try simp only [a_starts,a_ends,a_split,a_partition,a_intS,a_join,a_slS,a_ipS,a_repl,a_istr,a_tix,a_noneIn,a_catS,a_inT,a_ixS,a_neS,a_tyS,a_fld,a_sfld,a_meth,a_make,a_maxD,a_inS,a_ipC,a_izip,a_tComp2,a_izip3,a_tComp3,a_make0,a_eqS,V.str.injEq,a_izipB,a_tryAs,a_drop_nx,a_raise,a_try,a_fst,a_compIf,a_seq,a_next,a_brk,a_cnt,a_drop,a_ret,a_retN,a_if,a_asg,a_gname,a_gsub,a_gtup,a_gnil,a_gcons,a_aug,a_augS,a_ipI,a_var,a_c,a_op,a_un,a_rI,a_rI0,a_rU,a_eqI,a_neI,a_eqB,a_neB,a_tB,a_test,a_and,a_or,a_not,a_andV,a_orV,a_notV,a_ifE,a_chain,a_nil,a_cons,a_lst,a_tup,a_call,a_cb,a_bm0,a_bm,a_sl,a_nopart,a_part,a_tyI,a_for,a_comp,a_ilist,a_itup,a_irng1,a_irng2,a_irng3,a_cxK,and_assoc,a_irev,a_ienum,a_cat,a_rep,a_pop,a_clear,a_rslL,a_ixL,a_ixT,a_setL,a_app,List.getElem?_cons_zero,List.getElem?_cons_succ,List.set_cons_zero,List.set_cons_succ,Option.some.injEq,V.int.injEq,V.bl.injEq,V.ref.injEq,V.ty.injEq,exists_eq_left',exists_eq_left,exists_and_left,decide_eq_true_eq,List.cons_append,List.nil_append,List.append_nil,List.cons.injEq,and_true,true_and,Bool.not_eq_true',decide_eq_false_iff_not,ite_true,ite_false,Bool.false_eq_true,if_true,if_false,List.length_cons,List.length_nil,L2.start,List.map_cons,List.map_nil,List.replicate_succ,List.replicate_zero])))
local macro_rules | `(tactic| k_typeOf)=>`(tactic| ((try dsimp only [a_starts,a_ends,a_split,a_partition,a_intS,a_join,a_slS,a_ipS,a_repl,a_istr,a_tix,a_noneIn,a_catS,a_inT,a_ixS,a_neS,a_tyS,a_fld,a_sfld,a_meth,a_make,a_maxD,a_inS,a_ipC,a_izip,a_tComp2,a_izip3,a_tComp3,a_make0,a_eqS,a_izipB,a_tryAs,a_drop_nx,a_raise,a_try,a_fst,a_compIf,a_next,a_brk,a_cnt,a_drop,a_ret,a_retN,a_if,a_asg,a_gname,a_gsub,a_gtup,a_gnil,a_gcons,a_aug,a_augS,a_ipI,a_var,a_c,a_op,a_un,a_rI,a_rI0,a_rU,a_eqI,a_neI,a_eqB,a_neB,a_tB,a_test,a_and,a_or,a_not,a_andV,a_orV,a_notV,a_ifE,a_chain,a_nil,a_cons,a_lst,a_tup,a_call,a_cb,a_bm0,a_bm,a_sl,a_nopart,a_part,a_tyI,a_for,a_comp,a_ilist,a_itup,a_irng1,a_irng2,a_irng3,a_cxK,a_irev,a_ienum,a_cat,a_rep,a_pop,a_clear,a_rslL,a_ixL,a_ixT,a_setL,a_app]);(try simp only [a_starts,a_ends,a_split,a_partition,a_intS,a_join,a_slS,a_ipS,a_repl,a_istr,a_tix,a_noneIn,a_catS,a_inT,a_ixS,a_neS,a_tyS,a_fld,a_sfld,a_meth,a_make,a_maxD,a_inS,a_ipC,a_izip,a_tComp2,a_izip3,a_tComp3,a_make0,a_eqS,V.str.injEq,a_izipB,a_tryAs,a_drop_nx,a_raise,a_try,a_fst,a_compIf,a_next,a_brk,a_cnt,a_drop,a_ret,a_retN,a_if,a_asg,a_gname,a_gsub,a_gtup,a_gnil,a_gcons,a_aug,a_augS,a_ipI,a_var,a_c,a_op,a_un,a_rI,a_rI0,a_rU,a_eqI,a_neI,a_eqB,a_neB,a_tB,a_test,a_and,a_or,a_not,a_andV,a_orV,a_notV,a_ifE,a_chain,a_nil,a_cons,a_lst,a_tup,a_call,a_cb,a_bm0,a_bm,a_sl,a_nopart,a_part,a_tyI,a_for,a_comp,a_ilist,a_itup,a_irng1,a_irng2,a_irng3,a_cxK,and_assoc,a_irev,a_ienum,a_cat,a_rep,a_pop,a_clear,a_rslL,a_ixL,a_ixT,a_setL,a_app,List.getElem?_cons_zero,List.getElem?_cons_succ,List.set_cons_zero,List.set_cons_succ,Option.some.injEq,V.int.injEq,V.bl.injEq,V.ref.injEq,V.ty.injEq,exists_eq_left',exists_eq_left,exists_and_left,decide_eq_true_eq,List.cons_append,List.nil_append,List.append_nil,List.cons.injEq,and_true,true_and,Bool.not_eq_true',decide_eq_false_iff_not,ite_true,ite_false,Bool.false_eq_true,if_true,if_false,List.length_cons,List.length_nil,L2.start,List.map_cons,List.map_nil,List.replicate_succ,List.replicate_zero])))
local macro_rules | `(tactic| w_on)=>`(tactic| exact⟨rfl,rfl,rfl,by decide +kernel,rfl,by decide +kernel,by decide +kernel⟩)
theorem sc_divisor:FnScope ["one","other","big","small","pair","rest"] ["one","other"] (defScope s_divisor):=by w_on
theorem sc_ratio:FnScope ["top","bottom","shared"] ["top","bottom"] (defScope s_ratio):=by w_on
theorem sc_low_forms:FnScope ["upper","lower"] ["upper","lower"] (defScope s_low_forms):=by w_on
theorem sc_within:FnScope ["form","least"] ["form","least"] (defScope s_within):=by w_on
theorem sc_check_choose:FnScope ["upper","lower","low"] ["upper","lower"] (defScope s_check_choose):=by w_on
theorem sc_check_base:FnScope ["fraction"] ["fraction"] (defScope s_check_base):=by w_on
theorem sc_piece_of:FnScope ["part"] ["part"] (defScope s_piece_of):=by w_on
theorem sc_show_ratio:FnScope ["fraction"] ["fraction"] (defScope s_show_ratio):=by w_on
theorem sc_show_counted:FnScope ["number","letter"] ["number","letter"] (defScope s_show_counted):=by w_on
theorem sc_show_form:FnScope ["form","answer","number","letter","sign"] ["form"] (defScope s_show_form):=by w_on
theorem sc_show_part:FnScope ["part","letter"] ["part"] (defScope s_show_part):=by w_on
theorem sc_show_term:FnScope ["term"] ["term"] (defScope s_show_term):=by w_on
theorem sc_read_whole:FnScope ["text","figures","number"] ["text"] (defScope s_read_whole):=by w_on
theorem sc_read_ratio:FnScope ["text","halves","top","bottom","fraction"] ["text"] (defScope s_read_ratio):=by w_on
theorem sc_read_counted:FnScope ["text","letter"] ["text","letter"] (defScope s_read_counted):=by w_on
theorem sc_read_form:FnScope ["text","numbers","piece","letter","number","form"] ["text"] (defScope s_read_form):=by w_on
theorem sc_read_choose:FnScope ["text","forms"] ["text"] (defScope s_read_choose):=by w_on
theorem sc_read_part:FnScope ["text","part"] ["text"] (defScope s_read_part):=by w_on
theorem sc_read_term:FnScope ["text","parts"] ["text"] (defScope s_read_term):=by w_on
theorem sc__law_cell_at:FnScope ["_law_script","_law_k"] ["_law_script","_law_k"] (defScope s__law_cell_at):=by w_on
theorem sc__law_number:FnScope ["_law_cell","_law_most"] ["_law_cell","_law_most"] (defScope s__law_number):=by w_on
theorem sc__law_divisor:FnScope ["_law_one","_law_other","_law_rest"] ["_law_one","_law_other"] (defScope s__law_divisor):=by w_on
theorem sc__law_mixed:FnScope ["_law_cell","_law_k","_law_number_here","_law_time"] ["_law_cell","_law_k"] (defScope s__law_mixed):=by w_on
theorem sc__law_forms:FnScope ["_law_one","_law_other","_law_most","_law_high","_law_low"] ["_law_one","_law_other","_law_most"] (defScope s__law_forms):=by w_on
theorem sc__law_ratio:FnScope ["_law_one","_law_other","_law_top","_law_number_here","_law_bottom","_law_by"] ["_law_one","_law_other"] (defScope s__law_ratio):=by w_on
theorem sc__law_part:FnScope ["_law_cells","_law_most","_law_way"] ["_law_cells","_law_most"] (defScope s__law_part):=by w_on
theorem sc__law_parts:FnScope ["_law_script","_law_mosts","_law_found","_law_k","_law_part_here"] ["_law_script","_law_mosts"] (defScope s__law_parts):=by w_on
theorem sc__law_form_text:FnScope ["_law_form","_law_words","_law_k","_law_word"] ["_law_form"] (defScope s__law_form_text):=by w_on
theorem sc__law_ratio_text:FnScope ["_law_fraction"] ["_law_fraction"] (defScope s__law_ratio_text):=by w_on
theorem sc__law_part_text:FnScope ["_law_part_here"] ["_law_part_here"] (defScope s__law_part_text):=by w_on
theorem sc__law_read:FnScope ["_law_line","_law_parts_here","_law_found","_law_told"] ["_law_line","_law_parts_here"] (defScope s__law_read):=by w_on
theorem sc__law_refused:FnScope ["_law_line","_law_refused_here"] ["_law_line"] (defScope s__law_refused):=by w_on
theorem sc__law_small:FnScope ["_law_one","_law_other","_law_a","_law_b","_law_form","_law_line","_law_by","_law_fraction"] ["_law_one","_law_other"] (defScope s__law_small):=by w_on
theorem sc_law:FnScope ["_law_script","_law_parts_here","_law_term","_law_due","_law_line","_law_k","_law_part_here"] ["_law_script"] (defScope s_law):=by w_on
theorem sc_Choose___init__:FnScope ["self","upper","lower"] ["self","upper","lower"] (defScope s_Choose___init__):=by w_on
theorem sc_Weight___init__:FnScope ["self","form"] ["self","form"] (defScope s_Weight___init__):=by w_on
theorem sc_Power___init__:FnScope ["self","fraction"] ["self","fraction"] (defScope s_Power___init__):=by w_on
theorem sc_Growth___init__:FnScope ["self","fraction"] ["self","fraction"] (defScope s_Growth___init__):=by w_on
theorem sc_Term___init__:FnScope ["self","parts"] ["self","parts"] (defScope s_Term___init__):=by w_on
theorem sc_Term_told:FnScope ["self"] ["self"] (defScope s_Term_told):=by w_on
set_option genInjectivity false in
set_option genSizeOf false in
structure Tx (K:W.Frag) (mg:Str->Option Value) where
 a_divisor:Addr
 fd_divisor:FuncData
 F_divisor:Fun K "divisor" "divisor" s_divisor a_divisor fd_divisor
 m_divisor:mg "divisor" = some (.ref a_divisor)
 b_divisor:Binds K fd_divisor ["one","other"] []
 a_ratio:Addr
 fd_ratio:FuncData
 F_ratio:Fun K "ratio" "ratio" s_ratio a_ratio fd_ratio
 m_ratio:mg "ratio" = some (.ref a_ratio)
 b_ratio:Binds K fd_ratio ["top","bottom"] []
 a_low_forms:Addr
 fd_low_forms:FuncData
 F_low_forms:Fun K "low_forms" "low_forms" s_low_forms a_low_forms fd_low_forms
 m_low_forms:mg "low_forms" = some (.ref a_low_forms)
 b_low_forms:Binds K fd_low_forms ["upper","lower"] []
 a_within:Addr
 fd_within:FuncData
 F_within:Fun K "within" "within" s_within a_within fd_within
 m_within:mg "within" = some (.ref a_within)
 b_within:Binds K fd_within ["form","least"] []
 a_check_choose:Addr
 fd_check_choose:FuncData
 F_check_choose:Fun K "check_choose" "check_choose" s_check_choose a_check_choose fd_check_choose
 m_check_choose:mg "check_choose" = some (.ref a_check_choose)
 b_check_choose:Binds K fd_check_choose ["upper","lower"] []
 a_check_base:Addr
 fd_check_base:FuncData
 F_check_base:Fun K "check_base" "check_base" s_check_base a_check_base fd_check_base
 m_check_base:mg "check_base" = some (.ref a_check_base)
 b_check_base:Binds K fd_check_base ["fraction"] []
 a_piece_of:Addr
 fd_piece_of:FuncData
 F_piece_of:Fun K "piece_of" "piece_of" s_piece_of a_piece_of fd_piece_of
 m_piece_of:mg "piece_of" = some (.ref a_piece_of)
 b_piece_of:Binds K fd_piece_of ["part"] []
 a_show_ratio:Addr
 fd_show_ratio:FuncData
 F_show_ratio:Fun K "show_ratio" "show_ratio" s_show_ratio a_show_ratio fd_show_ratio
 m_show_ratio:mg "show_ratio" = some (.ref a_show_ratio)
 b_show_ratio:Binds K fd_show_ratio ["fraction"] []
 a_show_counted:Addr
 fd_show_counted:FuncData
 F_show_counted:Fun K "show_counted" "show_counted" s_show_counted a_show_counted fd_show_counted
 m_show_counted:mg "show_counted" = some (.ref a_show_counted)
 b_show_counted:Binds K fd_show_counted ["number","letter"] []
 a_show_form:Addr
 fd_show_form:FuncData
 F_show_form:Fun K "show_form" "show_form" s_show_form a_show_form fd_show_form
 m_show_form:mg "show_form" = some (.ref a_show_form)
 b_show_form:Binds K fd_show_form ["form"] []
 a_show_part:Addr
 fd_show_part:FuncData
 F_show_part:Fun K "show_part" "show_part" s_show_part a_show_part fd_show_part
 m_show_part:mg "show_part" = some (.ref a_show_part)
 b_show_part:Binds K fd_show_part ["part"] []
 a_show_term:Addr
 fd_show_term:FuncData
 F_show_term:Fun K "show_term" "show_term" s_show_term a_show_term fd_show_term
 m_show_term:mg "show_term" = some (.ref a_show_term)
 b_show_term:Binds K fd_show_term ["term"] []
 a_read_whole:Addr
 fd_read_whole:FuncData
 F_read_whole:Fun K "read_whole" "read_whole" s_read_whole a_read_whole fd_read_whole
 m_read_whole:mg "read_whole" = some (.ref a_read_whole)
 b_read_whole:Binds K fd_read_whole ["text"] []
 a_read_ratio:Addr
 fd_read_ratio:FuncData
 F_read_ratio:Fun K "read_ratio" "read_ratio" s_read_ratio a_read_ratio fd_read_ratio
 m_read_ratio:mg "read_ratio" = some (.ref a_read_ratio)
 b_read_ratio:Binds K fd_read_ratio ["text"] []
 a_read_counted:Addr
 fd_read_counted:FuncData
 F_read_counted:Fun K "read_counted" "read_counted" s_read_counted a_read_counted fd_read_counted
 m_read_counted:mg "read_counted" = some (.ref a_read_counted)
 b_read_counted:Binds K fd_read_counted ["text","letter"] []
 a_read_form:Addr
 fd_read_form:FuncData
 F_read_form:Fun K "read_form" "read_form" s_read_form a_read_form fd_read_form
 m_read_form:mg "read_form" = some (.ref a_read_form)
 b_read_form:Binds K fd_read_form ["text"] []
 a_read_choose:Addr
 fd_read_choose:FuncData
 F_read_choose:Fun K "read_choose" "read_choose" s_read_choose a_read_choose fd_read_choose
 m_read_choose:mg "read_choose" = some (.ref a_read_choose)
 b_read_choose:Binds K fd_read_choose ["text"] []
 a_read_part:Addr
 fd_read_part:FuncData
 F_read_part:Fun K "read_part" "read_part" s_read_part a_read_part fd_read_part
 m_read_part:mg "read_part" = some (.ref a_read_part)
 b_read_part:Binds K fd_read_part ["text"] []
 a_read_term:Addr
 fd_read_term:FuncData
 F_read_term:Fun K "read_term" "read_term" s_read_term a_read_term fd_read_term
 m_read_term:mg "read_term" = some (.ref a_read_term)
 b_read_term:Binds K fd_read_term ["text"] []
 a__law_cell_at:Addr
 fd__law_cell_at:FuncData
 F__law_cell_at:Fun K "_law_cell_at" "_law_cell_at" s__law_cell_at a__law_cell_at fd__law_cell_at
 m__law_cell_at:mg "_law_cell_at" = some (.ref a__law_cell_at)
 b__law_cell_at:Binds K fd__law_cell_at ["_law_script","_law_k"] []
 a__law_number:Addr
 fd__law_number:FuncData
 F__law_number:Fun K "_law_number" "_law_number" s__law_number a__law_number fd__law_number
 m__law_number:mg "_law_number" = some (.ref a__law_number)
 b__law_number:Binds K fd__law_number ["_law_cell","_law_most"] []
 a__law_divisor:Addr
 fd__law_divisor:FuncData
 F__law_divisor:Fun K "_law_divisor" "_law_divisor" s__law_divisor a__law_divisor fd__law_divisor
 m__law_divisor:mg "_law_divisor" = some (.ref a__law_divisor)
 b__law_divisor:Binds K fd__law_divisor ["_law_one","_law_other"] []
 a__law_mixed:Addr
 fd__law_mixed:FuncData
 F__law_mixed:Fun K "_law_mixed" "_law_mixed" s__law_mixed a__law_mixed fd__law_mixed
 m__law_mixed:mg "_law_mixed" = some (.ref a__law_mixed)
 b__law_mixed:Binds K fd__law_mixed ["_law_cell","_law_k"] []
 a__law_forms:Addr
 fd__law_forms:FuncData
 F__law_forms:Fun K "_law_forms" "_law_forms" s__law_forms a__law_forms fd__law_forms
 m__law_forms:mg "_law_forms" = some (.ref a__law_forms)
 b__law_forms:Binds K fd__law_forms ["_law_one","_law_other","_law_most"] []
 a__law_ratio:Addr
 fd__law_ratio:FuncData
 F__law_ratio:Fun K "_law_ratio" "_law_ratio" s__law_ratio a__law_ratio fd__law_ratio
 m__law_ratio:mg "_law_ratio" = some (.ref a__law_ratio)
 b__law_ratio:Binds K fd__law_ratio ["_law_one","_law_other"] []
 a__law_part:Addr
 fd__law_part:FuncData
 F__law_part:Fun K "_law_part" "_law_part" s__law_part a__law_part fd__law_part
 m__law_part:mg "_law_part" = some (.ref a__law_part)
 b__law_part:Binds K fd__law_part ["_law_cells","_law_most"] []
 a__law_parts:Addr
 fd__law_parts:FuncData
 F__law_parts:Fun K "_law_parts" "_law_parts" s__law_parts a__law_parts fd__law_parts
 m__law_parts:mg "_law_parts" = some (.ref a__law_parts)
 b__law_parts:Binds K fd__law_parts ["_law_script","_law_mosts"] []
 a__law_form_text:Addr
 fd__law_form_text:FuncData
 F__law_form_text:Fun K "_law_form_text" "_law_form_text" s__law_form_text a__law_form_text fd__law_form_text
 m__law_form_text:mg "_law_form_text" = some (.ref a__law_form_text)
 b__law_form_text:Binds K fd__law_form_text ["_law_form"] []
 a__law_ratio_text:Addr
 fd__law_ratio_text:FuncData
 F__law_ratio_text:Fun K "_law_ratio_text" "_law_ratio_text" s__law_ratio_text a__law_ratio_text fd__law_ratio_text
 m__law_ratio_text:mg "_law_ratio_text" = some (.ref a__law_ratio_text)
 b__law_ratio_text:Binds K fd__law_ratio_text ["_law_fraction"] []
 a__law_part_text:Addr
 fd__law_part_text:FuncData
 F__law_part_text:Fun K "_law_part_text" "_law_part_text" s__law_part_text a__law_part_text fd__law_part_text
 m__law_part_text:mg "_law_part_text" = some (.ref a__law_part_text)
 b__law_part_text:Binds K fd__law_part_text ["_law_part_here"] []
 a__law_read:Addr
 fd__law_read:FuncData
 F__law_read:Fun K "_law_read" "_law_read" s__law_read a__law_read fd__law_read
 m__law_read:mg "_law_read" = some (.ref a__law_read)
 b__law_read:Binds K fd__law_read ["_law_line","_law_parts_here"] []
 a__law_refused:Addr
 fd__law_refused:FuncData
 F__law_refused:Fun K "_law_refused" "_law_refused" s__law_refused a__law_refused fd__law_refused
 m__law_refused:mg "_law_refused" = some (.ref a__law_refused)
 b__law_refused:Binds K fd__law_refused ["_law_line"] []
 a__law_small:Addr
 fd__law_small:FuncData
 F__law_small:Fun K "_law_small" "_law_small" s__law_small a__law_small fd__law_small
 m__law_small:mg "_law_small" = some (.ref a__law_small)
 b__law_small:Binds K fd__law_small ["_law_one","_law_other"] []
 a_law:Addr
 fd_law:FuncData
 F_law:Fun K "law" "law" s_law a_law fd_law
 m_law:mg "law" = some (.ref a_law)
 b_law:Binds K fd_law ["_law_script"] []
 a_Choose___init__:Addr
 fd_Choose___init__:FuncData
 F_Choose___init__:Fun K "__init__" "Choose.__init__" s_Choose___init__ a_Choose___init__ fd_Choose___init__
 b_Choose___init__:Binds K fd_Choose___init__ ["self","upper","lower"] []
 a_Weight___init__:Addr
 fd_Weight___init__:FuncData
 F_Weight___init__:Fun K "__init__" "Weight.__init__" s_Weight___init__ a_Weight___init__ fd_Weight___init__
 b_Weight___init__:Binds K fd_Weight___init__ ["self","form"] []
 a_Power___init__:Addr
 fd_Power___init__:FuncData
 F_Power___init__:Fun K "__init__" "Power.__init__" s_Power___init__ a_Power___init__ fd_Power___init__
 b_Power___init__:Binds K fd_Power___init__ ["self","fraction"] []
 a_Growth___init__:Addr
 fd_Growth___init__:FuncData
 F_Growth___init__:Fun K "__init__" "Growth.__init__" s_Growth___init__ a_Growth___init__ fd_Growth___init__
 b_Growth___init__:Binds K fd_Growth___init__ ["self","fraction"] []
 a_Term___init__:Addr
 fd_Term___init__:FuncData
 F_Term___init__:Fun K "__init__" "Term.__init__" s_Term___init__ a_Term___init__ fd_Term___init__
 b_Term___init__:Binds K fd_Term___init__ ["self","parts"] []
 a_Term_told:Addr
 fd_Term_told:FuncData
 F_Term_told:Fun K "told" "Term.told" s_Term_told a_Term_told fd_Term_told
 b_Term_told:Binds K fd_Term_told ["self"] []
 c_NoNumber:Addr
 mc_NoNumber:mg "NoNumber" = some (.ref c_NoNumber)
 xc_NoNumber:PySem.W.excIn K c_NoNumber bmV "ValueError.__new__" = true
 c_NoTerm:Addr
 mc_NoTerm:mg "NoTerm" = some (.ref c_NoTerm)
 xc_NoTerm:PySem.W.excIn K c_NoTerm bmV "ValueError.__new__" = true
 c_Choose:Addr
 mc_Choose:mg "Choose" = some (.ref c_Choose)
 cl_Choose:Cls K c_Choose
 mk_Choose:Mk K c_Choose a_Choose___init__
 na_Choose_above:NoAttr K c_Choose "above"
 na_Choose_lows:NoAttr K c_Choose "lows"
 c_Growth:Addr
 mc_Growth:mg "Growth" = some (.ref c_Growth)
 cl_Growth:Cls K c_Growth
 mk_Growth:Mk K c_Growth a_Growth___init__
 na_Growth_fraction:NoAttr K c_Growth "fraction"
 c_Part:Addr
 mc_Part:mg "Part" = some (.ref c_Part)
 cl_Part:Cls K c_Part
 c_Power:Addr
 mc_Power:mg "Power" = some (.ref c_Power)
 cl_Power:Cls K c_Power
 mk_Power:Mk K c_Power a_Power___init__
 na_Power_fraction:NoAttr K c_Power "fraction"
 c_Term:Addr
 mc_Term:mg "Term" = some (.ref c_Term)
 cl_Term:Cls K c_Term
 mk_Term:Mk K c_Term a_Term___init__
 me_Term_told:Meth K c_Term "told" a_Term_told
 na_Term_parts:NoAttr K c_Term "parts"
 na_Term_pieces:NoAttr K c_Term "pieces"
 oc_Term:OCl K c_Term
 c_Weight:Addr
 mc_Weight:mg "Weight" = some (.ref c_Weight)
 cl_Weight:Cls K c_Weight
 mk_Weight:Mk K c_Weight a_Weight___init__
 na_Weight_form:NoAttr K c_Weight "form"
 kc_NoTerm_NoTerm:Catches K c_NoTerm c_NoTerm
 ki_Term_Term:PySem.W.kitOne K (.ref c_Term) (.ref c_Term)=some true
 z_abs:mg "abs" = none
 z_all:mg "all" = none
 z_zip:mg "zip" = none
 z_str:mg "str" = none
 z_int:mg "int" = none
 z_len:mg "len" = none
 z_tuple:mg "tuple" = none
 z_range:mg "range" = none
 z_isinstance:mg "isinstance" = none
 z_list:mg "list" = none
 z_min:mg "min" = none
 g_LONG:{ t:Tok // mg "LONG" = some (.int 4000 t) }
 g_MOST_FIGURES:{ t:Tok // mg "MOST_FIGURES" = some (.int 60 t) }
 g_MOST_PARTS:{ t:Tok // mg "MOST_PARTS" = some (.int 6 t) }
 g_BETWEEN_FORMS:{ t:Tok // mg "BETWEEN_FORMS" = some (.str ", " t) }
 g_BETWEEN_PARTS:{ t:Tok // mg "BETWEEN_PARTS" = some (.str " * " t) }
 g_FIGURES:{ t:Tok // mg "FIGURES" = some (.str "0123456789" t) }
 gt_GREATEST:{ u:Addr // mg "GREATEST" = some (.ref u)∧∀H:Hp,SqT K H u [.int (3),.int (3),.int (9)] }
 gt_UPPER_LEAST:{ u:Addr // mg "UPPER_LEAST" = some (.ref u)∧∀H:Hp,SqT K H u [.int (0),.int (0),.int (0)] }
 gt_LOWER_LEAST:{ u:Addr // mg "LOWER_LEAST" = some (.ref u)∧∀H:Hp,SqT K H u [.int (-3),.int (-3),.int (-9)] }
 gt_LETTERS:{ u:Addr // mg "LETTERS" = some (.ref u)∧(∀H:Hp,SqT K H u [.str "n",.str "k",.str ""])∧∃o,K.lookup u=some o∧o.cls=.type "tuple" ∧ o.dict=none }
theorem abs_nat (a:Int):(if a < 0 then -a else a)=((a.natAbs:Nat):Int):=by split <;> omega
def spGcd:Sp:=fun vs H Q _=>∃a b:Int,vs=[.int a,.int b]∧b.natAbs < 2 ^ 4000∧Q (.int (Nat.gcd a.natAbs b.natAbs:Nat)) H
theorem bits_le {b:Int} (h:b.natAbs < 2 ^ 4000):¬(4000:Int) < ((Builtin.Int.intBits ((b.natAbs:Nat):Int):Nat):Int):=by
 have:=intBits_le_of (i:=((b.natAbs:Nat):Int)) (k:=4000) (by rw [Int.natAbs_natCast];exact h)
 omega
theorem ok_divisor {P:Program} {w:World} {K:W.Frag} {mg:Str->Option Value} {base:Heap} (T:Tx K mg):FnOk P w K mg base CX0 1 T.a_divisor T.fd_divisor ["one","other"] spGcd:=by
 refine T.F_divisor.ok sc_divisor (fun vs H Q E h=>?_) (fun cdv A outer s H vs Q E hr h=>?_)
 ·obtain⟨a,b,rfl,_⟩:=h
  rfl
 obtain⟨a,b,rfl,hb,q⟩:=h
 refine⟨_,((pss_cons (ps_set (i:=2) sc_divisor.nd rfl (Or.inl rfl) (pe_callB call_abs rfl T.z_abs bt_abs (pa_cons (pv 0) pa_nil)))
  (pss_cons (ps_set (i:=3) sc_divisor.nd rfl (Or.inl rfl) (pe_callB call_abs rfl T.z_abs bt_abs (pa_cons (pv 1) pa_nil)))
  (pss_cons (ps_while PassesOwn.never (pt_cmpR op_gt (pe_bm0 PySem.F.plainAttrs_int PySem.F.slot_int_bit_length PySem.F.type_int_bit_length mt_bitlen (pv 3)) (pe_glob (v:=.int 4000) rfl T.g_LONG.2 ⟨_,rfl⟩) (nomark _)) pss_never)
  (pss_cons (ps_while PassesOwn.never (pt_cmpR op_ne (pv 3) pe_int (nomark _)) (pss_cons (ps_set (i:=5) sc_divisor.nd rfl (Or.inl rfl) (pe_op op_mod (pv 2) (pv 3)))
  (pss_cons (ps_set (i:=2) sc_divisor.nd rfl (Or.inl rfl) (pv 3))
  (pss_one (ps_set (i:=3) sc_divisor.nd rfl (Or.inl rfl) (pv 5))))))
  (pss_one (ps_ret (pv 2)))))))),?_⟩
 (iterate 3 (k_units;(try simp only [abs_nat]));k_units)
 refine while_of (fun m σ H'=>σ=[some (V.int a),some (V.int b),some (V.int a.natAbs),some (V.int b.natAbs),none,none]∧H'=H) 0 ⟨rfl,rfl⟩ ?_
 rintro m σ H' ⟨rfl,rfl⟩
 k_units
 rw [if_neg (bits_le hb)]
 refine while_of (fun m σ H1=>∃(x y:Nat) (r:Option V),σ=[some (V.int a),some (V.int b),some (.int x),some (.int y),none,r]∧H1=H'∧m=y∧Nat.gcd x y=Nat.gcd a.natAbs b.natAbs) b.natAbs ⟨a.natAbs,b.natAbs,none,rfl,rfl,rfl,rfl⟩ ?_
 rintro m σ H1 ⟨x,y,r,rfl,rfl,rfl,hg⟩
 k_units
 refine ite2 (fun h=>?_) (fun h=>?_)
 ·refine⟨fun σ' H2=>σ'=[some (V.int a),some (V.int b),some (V.int m),some (V.int ((x:Int) % (m:Int))),none,some (V.int ((x:Int) % (m:Int)))]∧H2=H1,?_,by omega,rfl,rfl⟩
  rintro σ' H2 ⟨rfl,rfl⟩
  refine⟨x % m,Nat.mod_lt _ (by omega),m,x % m,_,by rw [← Int.natCast_emod],rfl,rfl,?_⟩
  rw [Nat.gcd_comm m,← Nat.gcd_rec,Nat.gcd_comm];exact hg
 ·have h0:m=0:=by omega
  subst h0
  rw [Nat.gcd_zero_right] at hg
  rw [hg];exact q
def spGcdL:Sp:=fun vs H Q _=>∃a b:Int,vs=[.int a,.int b]∧Q (.int (Nat.gcd a.natAbs b.natAbs:Nat)) H
theorem ok__law_divisor {P:Program} {w:World} {K:W.Frag} {mg:Str->Option Value} {base:Heap} (T:Tx K mg):FnOk P w K mg base CX0 1 T.a__law_divisor T.fd__law_divisor ["_law_one","_law_other"] spGcdL:=by
 refine T.F__law_divisor.ok sc__law_divisor (fun vs H Q E h=>?_) (fun cdv A outer s H vs Q E hr h=>?_)
 ·obtain⟨a,b,rfl,_⟩:=h
  rfl
 obtain⟨a,b,rfl,q⟩:=h
 refine⟨_,((pss_cons (ps_set (i:=0) sc__law_divisor.nd rfl (Or.inl rfl) (pe_callB call_abs rfl T.z_abs bt_abs (pa_cons (pv 0) pa_nil)))
  (pss_cons (ps_set (i:=1) sc__law_divisor.nd rfl (Or.inl rfl) (pe_callB call_abs rfl T.z_abs bt_abs (pa_cons (pv 1) pa_nil)))
  (pss_cons (ps_while PassesOwn.never (pt_cmpR op_ne (pv 0) pe_int (nomark _)) (pss_cons (ps_set (i:=2) sc__law_divisor.nd rfl (Or.inl rfl) (pe_op op_mod (pv 1) (pv 0)))
  (pss_cons (ps_set (i:=1) sc__law_divisor.nd rfl (Or.inl rfl) (pv 0))
  (pss_one (ps_set (i:=0) sc__law_divisor.nd rfl (Or.inl rfl) (pv 2))))))
  (pss_one (ps_ret (pv 1))))))),?_⟩
 (iterate 3 (k_units;(try simp only [abs_nat]));k_units)
 refine while_of (fun m σ H'=>∃(x y:Nat) (r:Option V),σ=[some (.int x),some (.int y),r]∧H'=H∧m=x∧Nat.gcd x y=Nat.gcd a.natAbs b.natAbs) a.natAbs ⟨a.natAbs,b.natAbs,none,rfl,rfl,rfl,rfl⟩ ?_
 rintro m σ H' ⟨x,y,r,rfl,rfl,rfl,hg⟩
 dsimp only [a_seq]
 k_typeOf
 refine ite2 (fun h=>?_) (fun h=>?_)
 ·skip
  dsimp only [a_seq]
  k_typeOf
  refine⟨fun σ' H1=>σ'=[some (V.int ((y:Int) % (m:Int))),some (V.int m),some (V.int ((y:Int) % (m:Int)))]∧H1=H',?_,by omega,rfl,rfl⟩
  rintro σ' H1 ⟨rfl,rfl⟩
  refine⟨y % m,Nat.mod_lt _ (by omega),y % m,m,_,by rw [← Int.natCast_emod],rfl,rfl,?_⟩
  rw [← Nat.gcd_rec];exact hg
 ·have h0:m=0:=by omega
  subst h0
  rw [Nat.gcd_zero_left] at hg
  rw [hg];exact q
def mkT (H:Hp) (Q:VK) (x y:Int):Prop:=∀p,H p=none->Q (.ref p) (upd H p (.tup [.int x,.int y]))
theorem bd_le {k:Nat} {x y:Int} (h:x.natAbs<=y.natAbs) (b:Bd k y):Bd k x:=Nat.lt_of_le_of_lt h b
def spRatio (c:Addr):Sp:=fun vs H Q E=>∃t b:Int,vs=[.int t,.int b]∧Bd 3000 b∧
 ((b≠0∧∀x y:Int,1<=y->Nat.gcd x.natAbs y.natAbs=1->x * b=t * y->x.natAbs<=t.natAbs->y.natAbs<=b.natAbs->mkT H Q x y)∨(b=0∧E (.ref c) none H))
theorem ok_ratio {P:Program} {w:World} {K:W.Frag} {mg:Str->Option Value} {base:Heap} (T:Tx K mg):FnOk P w K mg base (CXE P w) 2 T.a_ratio T.fd_ratio ["top","bottom"] (spRatio T.c_NoNumber):=by
 refine T.F_ratio.okE sc_ratio (fun vs H Q E h=>?_) (fun cdv A outer s H vs Q E hr h=>?_)
 ·obtain⟨t,b,rfl,_⟩:=h
  rfl
 obtain⟨t,b,rfl,hb,q⟩:=h
 refine⟨_,((pss_cons (ps_if (PT.nox (pt_cmpR op_eq (pv 1) pe_int (nomark _))) (pss_one (ps_raise rfl throwE rfl T.mc_NoNumber T.xc_NoNumber (pa_cons pe_str pa_nil))) pss_nil)
  (pss_cons (PS.nox (ps_set (i:=2) sc_ratio.nd rfl (Or.inl rfl) (pe_call (FnOk.mono (ok_divisor T) (by decide)) hr rfl T.m_divisor T.F_divisor.kp T.b_divisor .nil pass0 (pa_cons (pv 0) (pa_cons (pv 1) pa_nil)))))
  (pss_cons (PS.nox (ps_if (pt_cmpR op_lt (pv 1) pe_int (nomark _)) (pss_one (ps_set (i:=2) sc_ratio.nd rfl (Or.inl rfl) (pe_un un_neg (pv 2)))) pss_nil))
  (pss_one (PS.nox (ps_ret (pe_tup (pa_cons (pe_op op_fdivB (pv 0) (pv 2)) (pa_cons (pe_op op_fdivB (pv 1) (pv 2)) pa_nil)))))))))),?_⟩
 k_units
 refine ite2 (fun h0=>?_) (fun h0=>?_)
 ·rcases q with ⟨hn,_⟩ | ⟨_,q⟩
  ·exact absurd h0 hn
  ·exact⟨by decide,q⟩
 ·obtain⟨hn,q⟩:=q.resolve_right fun z=>h0 z.1
  refine⟨t,b,rfl,Nat.lt_of_lt_of_le hb (Nat.pow_le_pow_right (by decide) (by decide)),?_⟩
  have small:∀s:Int,s.natAbs=Nat.gcd t.natAbs b.natAbs->s.natAbs < 2 ^ 9000:=fun s e=>by
   rw [e]
   exact Nat.lt_of_le_of_lt (Nat.gcd_le_right _ (by omega)) (Nat.lt_of_lt_of_le hb (Nat.pow_le_pow_right (by decide) (by decide)))
  have fin:∀s:Int,(s=if b < 0 then -((Nat.gcd t.natAbs b.natAbs:Nat):Int) else ((Nat.gcd t.natAbs b.natAbs:Nat):Int))->(s≠0∧s.natAbs < 2 ^ 9000)∧(s≠0∧s.natAbs < 2 ^ 9000)∧mkT H Q (t.fdiv s) (b.fdiv s):=fun s e=>by
   obtain⟨g1,g2,g3,g4,g5,g6⟩:=gcd_split hn e
   refine⟨⟨g1,small s g2⟩,⟨g1,small s g2⟩,q _ _ g5 g6 ?_ (fdiv_le g1 g3) (fdiv_le g1 g4)⟩
   rw [Int.mul_comm,g4,Int.mul_assoc,← g4]
   generalize b.fdiv s=y at *
   generalize t.fdiv s=x at *
   rw [g3,Int.mul_assoc,Int.mul_comm x y]
  refine ite2 (fun hneg=>?_) (fun hneg=>?_)
  ·obtain⟨f1,f2,f3⟩:=fin _ (by rw [if_pos hneg])
   exact⟨_,rfl,f1.1,f1.2,f2.1,f2.2,by decide,f3⟩
  ·obtain⟨f1,f2,f3⟩:=fin _ (by rw [if_neg hneg])
   exact⟨_,rfl,f1.1,f1.2,_,rfl,f2.1,f2.2,by decide,f3⟩
def cntT (n:Int) (lt:List Nat):List Nat:=if lt=[]∨1 < n.natAbs then TX.shI n++lt else if 0 < n then lt else 45 :: lt
def stepT (acc:List Nat) (n:Int) (lt:List Nat):List Nat:=if n=0 then acc else acc++((if 0 < n∧acc≠[] then [43] else [])++cntT n lt)
def allT (f:Int×Int×Int):List Nat:=stepT (stepT (stepT [] f.1 [110]) f.2.1 [107]) f.2.2 []
def shF (f:Int×Int×Int):List Nat:=if allT f=[] then [48] else allT f
def shR (f:Int×Int):List Nat:=if f.2=1 then TX.shI f.1 else TX.shI f.1++47 :: TX.shI f.2
theorem log_of {n:Int} {k:Nat} (h:n.natAbs < 2 ^ k) (hk:k<=1920) (k0:0 < k):n.natAbs.log2 < 1920:=by
 by_cases z:n.natAbs=0
 ·rw [z];decide
 ·exact Nat.lt_of_lt_of_le ((Nat.log2_lt z).mpr h) hk
theorem l_sl:Str.ofString "/" = TX.S [47]:=rfl
theorem l_pl:Str.ofString "+" = TX.S [43]:=rfl
theorem l_mi:Str.ofString "-" = TX.S [45]:=rfl
theorem l_n:Str.ofString "n" = TX.S [110]:=rfl
theorem l_k:Str.ofString "k" = TX.S [107]:=rfl
theorem l_e:Str.ofString "" = TX.S []:=rfl
theorem l_0:Str.ofString "0" = TX.S [48]:=rfl
theorem ten_400:2 ^ 400<=10 ^ 121:=by decide +kernel
theorem sh_len {n:Int} (h:n.natAbs < 2 ^ 400):(TX.shI n).length<=122:=by
 have:=TX.dg_len (m:=n.natAbs) (k:=121) (Nat.lt_of_lt_of_le h ten_400) (by decide)
 unfold TX.shI;split
 ·simp;omega
 ·omega
theorem sl_of {n:Nat} (h:n<=10000):n<=sizeLine:=Nat.le_trans h (by decide)
def spShR (K:W.Frag):Sp:=fun vs H Q _=>∃(p:Addr) (f:Int×Int),vs=[.ref p]∧SqT K H p [.int f.1,.int f.2]∧f.1.natAbs < 2 ^ 400∧f.2.natAbs < 2 ^ 400∧Q (.str (TX.S (shR f))) H
theorem ok_show_ratio {P:Program} {w:World} {K:W.Frag} {mg:Str->Option Value} {base:Heap} (T:Tx K mg):FnOk P w K mg base CX0 1 T.a_show_ratio T.fd_show_ratio ["fraction"] (spShR K):=by
 refine T.F_show_ratio.ok sc_show_ratio (fun vs H Q E h=>?_) (fun cdv A outer s H vs Q E hr h=>?_)
 ·obtain⟨p,f,rfl,_⟩:=h
  rfl
 obtain⟨p,f,rfl,hp,b1,b2,q⟩:=h
 refine⟨_,((pss_cons (ps_if (pt_cmpR op_eq (pe_ix ix_tup (pv 0) pe_int (fun _ _=>rfl)) pe_int (nomark _)) (pss_one (ps_ret (pe_callTy call_str_int rfl T.z_str bt_str (pa_cons (pe_ix ix_tup (pv 0) pe_int (fun _ _=>rfl)) pa_nil)))) pss_nil)
  (pss_one (ps_ret (pe_op op_catS (pe_op op_catS (pe_callTy call_str_int rfl T.z_str bt_str (pa_cons (pe_ix ix_tup (pv 0) pe_int (fun _ _=>rfl)) pa_nil)) pe_str) (pe_callTy call_str_int rfl T.z_str bt_str (pa_cons (pe_ix ix_tup (pv 0) pe_int (fun _ _=>rfl)) pa_nil))))))),?_⟩
 dsimp only [a_seq]
 k_typeOf
 refine⟨_,hp,_,rfl,?_⟩
 rw [a_eqI]
 refine⟨_,rfl,ite2 (fun h=>?_) (fun h=>?_)⟩
 ·have e:f.2=1:=of_decide_eq_true h
  refine⟨_,hp,_,rfl,_,rfl,log_of b1 (by decide) (by decide),?_⟩
  rw [TX.toS]
  unfold shR at q
  rw [if_pos e] at q
  exact q
 ·have e:f.2≠1:=fun z=>h (decide_eq_true z)
  unfold shR at q
  rw [if_neg e] at q
  have l1:=sh_len b1
  have l2:=sh_len b2
  refine⟨_,hp,_,rfl,_,rfl,log_of b1 (by decide) (by decide),?_,_,hp,_,rfl,_,rfl,log_of b2 (by decide) (by decide),?_,?_⟩
  ·rw [TX.toS,l_sl,TX.S_len,TX.S_len];exact sl_of (by simp;omega)
  ·rw [TX.toS,TX.toS,l_sl,TX.S_app,TX.S_len,TX.S_len];exact sl_of (by simp;omega)
  ·rw [TX.toS,TX.toS,l_sl,TX.S_app,TX.S_app]
   simpa using q
def spCnt:Sp:=fun vs H Q _=>∃(n:Int) (lt:List Nat),vs=[.int n,.str (TX.S lt)]∧n≠0∧n.natAbs < 2 ^ 400∧lt.length<=5∧Q (.str (TX.S (cntT n lt))) H
theorem ok_show_counted {P:Program} {w:World} {K:W.Frag} {mg:Str->Option Value} {base:Heap} (T:Tx K mg):FnOk P w K mg base CX0 1 T.a_show_counted T.fd_show_counted ["number","letter"] spCnt:=by
 refine T.F_show_counted.ok sc_show_counted (fun vs H Q E h=>?_) (fun cdv A outer s H vs Q E hr h=>?_)
 ·obtain⟨n,lt,rfl,_⟩:=h
  rfl
 obtain⟨n,lt,rfl,n0,bn,ll,q⟩:=h
 refine⟨_,((pss_cons (ps_if (PW.pt (pw_or (pt_cmpR op_eq (pv 1) pe_str (nomark _)) (pw_or1 (pt_cmpR op_gt (pe_callB call_abs rfl T.z_abs bt_abs (pa_cons (pv 0) pa_nil)) pe_int (nomark _))))) (pss_one (ps_ret (pe_op op_catS (pe_callTy call_str_int rfl T.z_str bt_str (pa_cons (pv 0) pa_nil)) (pv 1)))) pss_nil)
  (pss_one (ps_ret (pe_ifExp (pt_cmpR op_gt (pv 0) pe_int (nomark _)) (pv 1) (pe_op op_catS pe_str (pv 1))))))),?_⟩
 dsimp only [a_seq]
 k_typeOf
 rw [l_e]
 have l1:=sh_len bn
 have big:lt=[]∨1 < n.natAbs->n.natAbs.log2 < 1920∧(Str.ofString (toString n)).length+(TX.S lt).length<=sizeLine∧Q (V.str (Str.ofString (toString n)++TX.S lt)) H:=fun h=>by
  unfold cntT at q
  rw [if_pos h] at q
  refine⟨log_of bn (by decide) (by decide),?_,?_⟩
  ·rw [TX.toS,TX.S_len,TX.S_len];exact sl_of (by omega)
  ·rw [TX.toS,TX.S_app];exact q
 refine ite2 (fun h=>big (.inl (TX.S_inj h))) (fun h=>ite2 (fun h2=>big (.inr (by split at h2 <;> omega))) (fun h2=>?_))
 have nb:¬(lt=[]∨1 < n.natAbs):=fun z=>by
  rcases z with z | z
  ·exact h (by rw [z])
  ·exact h2 (by split <;> omega)
 unfold cntT at q
 rw [if_neg nb] at q
 refine ite2 (fun h3=>?_) (fun h3=>?_)
 ·rw [if_pos h3] at q;exact q
 ·rw [if_neg h3] at q
  refine⟨?_,?_⟩
  ·rw [l_mi,TX.S_len,TX.S_len];exact sl_of (by simp;omega)
  ·rw [l_mi,TX.S_app];exact q
theorem cnt_len {n:Int} {lt:List Nat} (h:n.natAbs < 2 ^ 400) (hl:lt.length<=5):(cntT n lt).length<=130:=by
 have:=sh_len h
 unfold cntT;split
 ·simp;omega
 ·split <;> simp <;> omega
def Ltr (i:Nat):List Nat:=if i=0 then [110] else if i=1 then [107] else []
def fat (f:Int×Int×Int) (i:Nat):Int:=if i=0 then f.1 else if i=1 then f.2.1 else f.2.2
def upT (f:Int×Int×Int):Nat->List Nat
 | 0=>[]
 | i+1=>stepT (upT f i) (fat f i) (Ltr i)
theorem up_3 (f:Int×Int×Int):upT f 3=allT f:=rfl
theorem step_len {acc:List Nat} {n:Int} {lt:List Nat} (h:n.natAbs < 2 ^ 400) (hl:lt.length<=5):(stepT acc n lt).length<=acc.length+131:=by
 have:=cnt_len h hl
 unfold stepT;split
 ·omega
 ·simp only [List.length_append]
  split <;> simp <;> omega
def FBd (f:Int×Int×Int) (b:Nat):Prop:=f.1.natAbs < 2 ^ b∧f.2.1.natAbs < 2 ^ b∧f.2.2.natAbs < 2 ^ b
theorem fat_bd {f:Int×Int×Int} {b:Nat} (h:FBd f b) (i:Nat):(fat f i).natAbs < 2 ^ b:=by
 unfold fat;split
 ·exact h.1
 ·split
  ·exact h.2.1
  ·exact h.2.2
theorem ltr_len (i:Nat):(Ltr i).length<=5:=by unfold Ltr;split;simp;split <;> simp
theorem up_len {f:Int×Int×Int} (h:FBd f 400):∀i,(upT f i).length<=131 * i
 | 0=>by simp [upT]
 | i+1=>by
  have:=up_len h i
  have:=step_len (acc:=upT f i) (fat_bd h i) (ltr_len i)
  show (stepT _ _ _).length<=_
  omega
def spShF (K:W.Frag):Sp:=fun vs H Q _=>∃(p:Addr) (f:Int×Int×Int),vs=[.ref p]∧SqT K H p [.int f.1,.int f.2.1,.int f.2.2]∧FBd f 400∧∀H',Same H H'->Q (.str (TX.S (shF f))) H'
theorem ok_show_form {P:Program} {w:World} {K:W.Frag} {mg:Str->Option Value} {base:Heap} (T:Tx K mg):FnOk P w K mg base CX0 2 T.a_show_form T.fd_show_form ["form"] (spShF K):=by
 refine T.F_show_form.ok sc_show_form (fun vs H Q E h=>?_) (fun cdv A outer s H vs Q E hr h=>?_)
 ·obtain⟨p,f,rfl,_⟩:=h
  rfl
 obtain⟨p,f,rfl,hp,bf,q⟩:=h
 refine⟨_,((pss_cons (ps_set (i:=1) sc_show_form.nd rfl (Or.inl rfl) pe_str)
  (pss_cons (ps_for PassesOwn.never rfl (pi_zipB rfl T.z_zip (pa_cons (pv 0) (pa_cons (pe_glob (v:=.ref T.gt_LETTERS.1) rfl T.gt_LETTERS.2.1 rfl) pa_nil))) (pg_tup rfl (pgs_cons (pg_name (i:=2) sc_show_form.nd rfl (Or.inl rfl)) (pgs_cons (pg_name (i:=3) sc_show_form.nd rfl (Or.inl rfl)) pgs_nil))) (pss_one (ps_if (pt_cmpR op_ne (pv 2) pe_int (nomark _)) (pss_cons (ps_set (i:=4) sc_show_form.nd rfl (Or.inl rfl) (pe_ifExp (PW.pt (pw_and (pt_cmpR op_gt (pv 2) pe_int (nomark _)) (pw_and1 (pt_cmpR op_ne (pv 1) pe_str (nomark _))))) pe_str pe_str))
  (pss_one (ps_aug (i:=1) sc_show_form.nd rfl (Or.inl rfl) (pe_op op_catS (pv 4) (pe_call (FnOk.mono (ok_show_counted T) (by decide)) hr rfl T.m_show_counted T.F_show_counted.kp T.b_show_counted .nil pass0 (pa_cons (pv 2) (pa_cons (pv 3) pa_nil)))) ip_addS))) pss_nil)))
  (pss_one (ps_ret (pe_ifExp (pt_cmpR op_ne (pv 1) pe_str (nomark _)) (pv 1) pe_str)))))),?_⟩
 dsimp only [a_seq]
 k_typeOf
 dsimp only [a_seq]
 k_typeOf
 have hL:∀H',SqT K H' T.gt_LETTERS.1 ([0,1,2].map fun i=>V.str (TX.S (Ltr i))):=T.gt_LETTERS.2.2.1
 have hF:SqT K H p ([0,1,2].map fun i=>V.int (fat f i)):=hp
 obtain⟨Pv,hPv⟩:∃Pv:Nat->L2.St->Hp->Prop,∀i σ Hx,Pv i σ Hx↔∃r2 r3 r4,σ=[some (.ref p),some (.str (TX.S (upT f i))),r2,r3,r4]∧Same H Hx:=⟨_,fun _ _ _=>Iff.rfl⟩
 refine⟨_,_,.inr ⟨hF,hL _,?_⟩⟩
 refine lp_zipT (xs:=[0,1,2].map fun i=>V.int (fat f i)) (ys:=[0,1,2].map fun i=>V.str (TX.S (Ltr i))) Pv ((hPv _ _ _).mpr ⟨_,_,_,rfl,Same.refl _⟩) (fun i σ Hx _ _ z=>?_) ?_ ?_
 ·obtain⟨_,_,_,_,z⟩:=(hPv _ _ _).mp z
  exact⟨Same.seqT z hF,hL _⟩
 ·intro i v1 v2 pt σ Hx e1 e2 z npt
  obtain⟨r2,r3,r4,rfl,sH⟩:=(hPv _ _ _).mp z
  have i3:i < 3:=by have:=(List.getElem?_eq_some_iff.mp e1).1;simpa using this
  have ev:v1=.int (fat f i)∧v2=.str (TX.S (Ltr i)):=by
   match i,i3,e1,e2 with
   | 0,_,e1,e2=>exact⟨by simpa using e1.symm,by simpa using e2.symm⟩
   | 1,_,e1,e2=>exact⟨by simpa using e1.symm,by simpa using e2.symm⟩
   | 2,_,e1,e2=>exact⟨by simpa using e1.symm,by simpa using e2.symm⟩
  obtain⟨rfl,rfl⟩:=ev
  clear e1 e2 z
  have s5:=same_upd npt (.tup [V.int (fat f i),V.str (TX.S (Ltr i))])
  k_units
  refine⟨_,SqT.of upd_same,rfl,?_⟩
  k_units
  have lu:=up_len bf i
  have lc:=cnt_len (fat_bd bf i) (ltr_len i)
  rw [l_e,l_pl]
  have go:∀sg:List Nat,fat f i≠0->sg.length<=1->upT f (i+1)=upT f i++(sg++cntT (fat f i) (Ltr i))->spCnt [V.int (fat f i),V.str (TX.S (Ltr i))] (upd Hx pt (HO.tup [V.int (fat f i),V.str (TX.S (Ltr i))]))
     (fun y H2=>∃x,y=V.str x∧(TX.S sg).length+x.length<=sizeLine∧(TX.S (upT f i)).length+(TX.S sg++x).length<=sizeLine∧Pv (i+1) [some (V.ref p),some (V.str (TX.S (upT f i)++(TX.S sg++x))),some (V.int (fat f i)),some (V.str (TX.S (Ltr i))),some (V.str (TX.S sg))] H2) E0:=fun sg n0 ls e=>by
   refine⟨_,_,rfl,n0,fat_bd bf i,ltr_len i,_,rfl,?_,?_,?_⟩
   ·rw [TX.S_len,TX.S_len];exact sl_of (by omega)
   ·rw [TX.S_app,TX.S_len,TX.S_len,List.length_append];exact sl_of (by omega)
   ·rw [TX.S_app,TX.S_app,← e];exact (hPv _ _ _).mpr ⟨_,_,_,rfl,sH.trans s5⟩
  have us:upT f (i+1)=stepT (upT f i) (fat f i) (Ltr i):=rfl
  refine ite2 (fun n0=>ite2 (fun pos=>ite2 (fun ne=>go [43] n0 (by simp) ?_) (fun ne=>go [] n0 (by simp) ?_)) (fun pos=>go [] n0 (by simp) ?_)) (fun n0=>(hPv _ _ _).mpr ⟨some (.int (fat f i)),some (.str (TX.S (Ltr i))),r4,?_,sH.trans s5⟩)
  ·rw [us];unfold stepT;rw [if_neg n0,if_pos ⟨pos,fun z=>ne (by rw [z])⟩]
  ·rw [us];unfold stepT;rw [if_neg n0,if_neg (fun z=>z.2 (TX.S_inj (Classical.not_not.mp ne)))]
  ·rw [us];unfold stepT;rw [if_neg n0,if_neg (fun z=>pos z.1)]
  ·rw [us];unfold stepT;rw [if_pos (Classical.not_not.mp n0)]
 ·intro σ Hx z
  obtain⟨r2,r3,r4,rfl,sH⟩:=(hPv _ _ _).mp z
  k_units
  have q':=q _ sH
  unfold shF at q'
  rw [l_e,l_0]
  show if ¬TX.S (upT f 3)=TX.S [] then Q (V.str (TX.S (upT f 3))) Hx else Q (V.str (TX.S [48])) Hx
  rw [up_3]
  refine ite2 (fun h=>?_) (fun h=>?_)
  ·rw [if_neg (fun z=>h (by rw [z]))] at q';exact q'
  ·rw [if_pos (TX.S_inj (Classical.not_not.mp h))] at q';exact q'
def Frc (f:Int×Int):Prop:=1<=f.2∧Nat.gcd f.1.natAbs f.2.natAbs=1
def spLowF (K:W.Frag):Sp:=fun vs H Q _=>∃(p q:Addr) (a b c d e f:Int),vs=[.ref p,.ref q]∧SqT K H p [.int a,.int b,.int c]∧SqT K H q [.int d,.int e,.int f]∧
 ∀(L t:Addr) (H':Hp),Same H H'->H L=none->H t=none->H' L=some (.lst [.ref q,.ref t])->H' t=some (.tup [.int (a - d),.int (b - e),.int (c - f)])->Q (.ref L) H'
theorem ok_low_forms {P:Program} {w:World} {K:W.Frag} {mg:Str->Option Value} {base:Heap} (T:Tx K mg):FnOk P w K mg base CX0 1 T.a_low_forms T.fd_low_forms ["upper","lower"] (spLowF K):=by
 refine T.F_low_forms.ok sc_low_forms (fun vs H Q E h=>?_) (fun cdv A outer s H vs Q E hr h=>?_)
 ·obtain⟨p,q,a,b,c,d,e,f,rfl,_⟩:=h
  rfl
 obtain⟨p,q,a,b,c,d,e,f,rfl,hp,hq,z⟩:=h
 refine⟨_,((pss_one (ps_ret (pe_lst (pa_cons (pv 1) (pa_cons (pe_tup (pa_cons (pe_op op_sub (pe_ix ix_tup (pv 0) pe_int (fun _ _=>rfl)) (pe_ix ix_tup (pv 1) pe_int (fun _ _=>rfl))) (pa_cons (pe_op op_sub (pe_ix ix_tup (pv 0) pe_int (fun _ _=>rfl)) (pe_ix ix_tup (pv 1) pe_int (fun _ _=>rfl))) (pa_cons (pe_op op_sub (pe_ix ix_tup (pv 0) pe_int (fun _ _=>rfl)) (pe_ix ix_tup (pv 1) pe_int (fun _ _=>rfl))) pa_nil)))) pa_nil)))))),?_⟩
 k_units
 refine⟨_,hp,_,rfl,_,hq,_,rfl,_,rfl,_,rfl,_,hp,_,rfl,_,hq,_,rfl,_,rfl,_,rfl,_,hp,_,rfl,_,hq,_,rfl,_,rfl,_,rfl,by decide,fun t nt=>⟨by decide,fun L nL=>?_⟩⟩
 have u1:=same_upd nt (.tup [V.int (a - d),V.int (b - e),V.int (c - f)])
 have u2:=same_upd nL (.lst [V.ref q,V.ref t])
 exact z L t _ (u1.trans u2) (u1.free nL) nt upd_same (u2 _ _ upd_same)
def wgtF (p:Addr):List (Str×V):=[(Str.ofString "form",.ref p)]
def spWInit (C:Addr):Sp:=fun vs H Q _=>∃x dx p:Addr,vs=[.ref x,.ref p]∧H x=some (.ins C dx [])∧Q .non (upd H x (.ins C dx (wgtF p)))
theorem ok_Weight___init__ {P:Program} {w:World} {K:W.Frag} {mg:Str->Option Value} {base:Heap} (T:Tx K mg):FnOk P w K mg base CX0 1 T.a_Weight___init__ T.fd_Weight___init__ ["self","form"] (spWInit T.c_Weight):=by
 refine T.F_Weight___init__.ok sc_Weight___init__ (fun vs H Q E h=>?_) (fun cdv A outer s H vs Q E hr h=>?_)
 ·obtain⟨x,dx,p,rfl,_⟩:=h
  rfl
 obtain⟨x,dx,p,rfl,hx,q⟩:=h
 refine⟨_,((pss_one (ps_fld (pv 0) (pv 1) rfl))),?_⟩
 k_units
 exact⟨T.c_Weight,dx,[],hx,T.cl_Weight,T.na_Weight_form,by decide,q⟩
def powF (p:Addr):List (Str×V):=[(Str.ofString "fraction",.ref p)]
def spPInit (C:Addr):Sp:=fun vs H Q _=>∃x dx p:Addr,vs=[.ref x,.ref p]∧H x=some (.ins C dx [])∧Q .non (upd H x (.ins C dx (powF p)))
theorem ok_Power___init__ {P:Program} {w:World} {K:W.Frag} {mg:Str->Option Value} {base:Heap} (T:Tx K mg):FnOk P w K mg base CX0 1 T.a_Power___init__ T.fd_Power___init__ ["self","fraction"] (spPInit T.c_Power):=by
 refine T.F_Power___init__.ok sc_Power___init__ (fun vs H Q E h=>?_) (fun cdv A outer s H vs Q E hr h=>?_)
 ·obtain⟨x,dx,p,rfl,_⟩:=h
  rfl
 obtain⟨x,dx,p,rfl,hx,q⟩:=h
 refine⟨_,((pss_one (ps_fld (pv 0) (pv 1) rfl))),?_⟩
 k_units
 exact⟨T.c_Power,dx,[],hx,T.cl_Power,T.na_Power_fraction,by decide,q⟩
theorem ok_Growth___init__ {P:Program} {w:World} {K:W.Frag} {mg:Str->Option Value} {base:Heap} (T:Tx K mg):FnOk P w K mg base CX0 1 T.a_Growth___init__ T.fd_Growth___init__ ["self","fraction"] (spPInit T.c_Growth):=by
 refine T.F_Growth___init__.ok sc_Growth___init__ (fun vs H Q E h=>?_) (fun cdv A outer s H vs Q E hr h=>?_)
 ·obtain⟨x,dx,p,rfl,_⟩:=h
  rfl
 obtain⟨x,dx,p,rfl,hx,q⟩:=h
 refine⟨_,((pss_one (ps_fld (pv 0) (pv 1) rfl))),?_⟩
 k_units
 exact⟨T.c_Growth,dx,[],hx,T.cl_Growth,T.na_Growth_fraction,by decide,q⟩
def chsF (p L:Addr):List (Str×V):=[(Str.ofString "above",.ref p),(Str.ofString "lows",.ref L)]
def spCInit (K:W.Frag) (C:Addr):Sp:=fun vs H Q _=>∃(x dx p q:Addr) (a b c d e f:Int),vs=[.ref x,.ref p,.ref q]∧H x=some (.ins C dx [])∧SqT K H p [.int a,.int b,.int c]∧SqT K H q [.int d,.int e,.int f]∧
 ∀(L t:Addr) (H':Hp),(∀y o,y≠x->H y=some o->H' y=some o)->H L=none->H t=none->H' x=some (.ins C dx (chsF p L))->H' L=some (.lst [.ref q,.ref t])->H' t=some (.tup [.int (a - d),.int (b - e),.int (c - f)])->Q .non H'
theorem SqT.updI {K:W.Frag} {H:Hp} {a x C dx:Addr} {xs:List V} {fs:List (Str×V)} {o:HO} (h:SqT K H a xs) (e:H x=some (.ins C dx fs)):SqT K (L2.upd H x o) a xs:=by
 rcases h with (h | ⟨u,h⟩) | h
 ·exact .inl (.inl (by rw [upd_ne (ne_of h e (fun z=>nomatch z))];exact h))
 ·exact .inl (.inr ⟨u,by rw [upd_ne (ne_of h e (fun z=>nomatch z))];exact h⟩)
 ·exact .inr h
theorem ok_Choose___init__ {P:Program} {w:World} {K:W.Frag} {mg:Str->Option Value} {base:Heap} (T:Tx K mg):FnOk P w K mg base CX0 2 T.a_Choose___init__ T.fd_Choose___init__ ["self","upper","lower"] (spCInit K T.c_Choose):=by
 refine T.F_Choose___init__.ok sc_Choose___init__ (fun vs H Q E h=>?_) (fun cdv A outer s H vs Q E hr h=>?_)
 ·obtain⟨x,dx,p,q,a,b,c,d,e,f,rfl,_⟩:=h
  rfl
 obtain⟨x,dx,p,q,a,b,c,d,e,f,rfl,hx,hp,hq,z⟩:=h
 refine⟨_,((pss_cons (ps_fld (pv 0) (pv 1) rfl)
  (pss_one (ps_fld (pv 0) (pe_call (FnOk.mono (ok_low_forms T) (by decide)) hr rfl T.m_low_forms T.F_low_forms.kp T.b_low_forms .nil pass0 (pa_cons (pv 1) (pa_cons (pv 2) pa_nil))) rfl)))),?_⟩
 k_units
 refine⟨T.c_Choose,dx,[],hx,T.cl_Choose,T.na_Choose_above,by decide,?_⟩
 have ex1:upd H x (.ins T.c_Choose dx (putF "above" (.ref p) [])) x=some (.ins T.c_Choose dx [("above",.ref p)]):=upd_same
 have hp1:=SqT.updI (o:=.ins T.c_Choose dx (putF "above" (.ref p) [])) hp hx
 have hq1:=SqT.updI (o:=.ins T.c_Choose dx (putF "above" (.ref p) [])) hq hx
 have k1:∀y o,y≠x->H y=some o->upd H x (.ins T.c_Choose dx (putF "above" (.ref p) [])) y=some o:=fun y o hy e=>by rw [upd_ne hy];exact e
 have n1:∀y,upd H x (.ins T.c_Choose dx (putF "above" (.ref p) [])) y=none->H y=none:=fun y e=>by
  by_cases hy:y=x
  ·rw [hy,upd_same] at e;cases e
  ·rw [upd_ne hy] at e;exact e
 generalize upd H x (.ins T.c_Choose dx (putF "above" (.ref p) []))=G at ex1 hp1 hq1 k1 n1 ⊢
 refine⟨p,q,a,b,c,d,e,f,rfl,hp1,hq1,fun L t H1 s1 nL nt eL et=>?_⟩
 refine⟨T.c_Choose,dx,_,s1 _ _ ex1,T.cl_Choose,T.na_Choose_lows,by show 1 < 1000;decide,?_⟩
 have pf:putF "lows" (.ref L) [("above",V.ref p)]=chsF p L:=rfl
 rw [pf]
 have nLx:L≠x:=fun hz=>by rw [hz,ex1] at nL;cases nL
 have ntx:t≠x:=fun hz=>by rw [hz,ex1] at nt;cases nt
 exact z L t _ (fun y o hy e=>by rw [upd_ne hy];exact s1 _ _ (k1 y o hy e)) (n1 _ nL) (n1 _ nt) upd_same (by rw [upd_ne nLx];exact eL) (by rw [upd_ne ntx];exact et)
inductive Prt where
 | cho (h l:Int×Int×Int)
 | wei (f:Int×Int×Int)
 | pow (f:Int×Int)
 | gro (f:Int×Int)
def subF (h l:Int×Int×Int):Int×Int×Int:=(h.1 - l.1,h.2.1 - l.2.1,h.2.2 - l.2.2)
def ChoOk (h l:Int×Int×Int):Prop:=(0<=h.1∧h.1<=3∧0<=h.2.1∧h.2.1<=3∧0<=h.2.2∧h.2.2<=9)∧(-3<=l.1∧l.1<=3∧-3<=l.2.1∧l.2.1<=3∧-9<=l.2.2∧l.2.2<=9)∧¬(l.1=0∧l.2.1 < 0)∧¬(h.1 - l.1=0∧h.2.1 - l.2.1 < 0)
def NB (n:Int):Prop:=n.natAbs < 10 ^ 60
def PrtOk:Prt->Prop
 | .cho h l=>ChoOk h l
 | .wei f=>NB f.1∧NB f.2.1∧NB f.2.2
 | .pow f=>Frc f∧f.1≠0∧Bd 70 f.1∧Bd 20 f.2
 | .gro f=>Frc f∧f.1≠0∧Bd 70 f.1∧Bd 20 f.2
theorem cl_zip3 {K:W.Frag} {a b c:Addr} {xs ys zs:List V} {fv:List (Nat×Str)} {te:TE} {Q:VK} {σ:L2.St} {H1:Hp} {D:Addr} (Pv:Nat->Hp->Prop) (ly:ys.length=xs.length) (lz:zs.length=xs.length) (h0:Pv 0 (L2.upd H1 D (.lst []))) (hl:∀i H,Pv i H->SqT K H a xs∧SqT K H b ys∧SqT K H c zs)
  (hs:∀i v1 v2 v3 p H,xs[i]?=some v1->ys[i]?=some v2->zs[i]?=some v3->Pv i H->H p=none->te (bst3 fv σ (some v1) (some v2) (some v3)) (L2.upd H p (.tup [v1,v2,v3])) fun y H2=>∃us,H2 D=some (.lst us)∧us.length < sizeLine∧Pv (i+1) (L2.upd H2 D (.lst (us++[y]))))
  (hd:∀H,Pv xs.length H->Q (.ref D) H):CLoop3 K (Itz3 K a b c) fv te Q σ H1 D:=by
 refine⟨fun i m H=>m=xs.length - i∧i<=xs.length∧Pv i H,⟨_,rfl,Nat.zero_le _,h0⟩,?_⟩
 rintro i m H ⟨rfl,hi,p⟩
 obtain⟨q1,q2,q3⟩:=hl i H p
 by_cases hlt:i < xs.length
 ·refine .inr ⟨⟨xs,ys,zs,xs[i],ys[i],zs[i],q1,q2,q3,List.getElem?_eq_getElem hlt,List.getElem?_eq_getElem (by omega),List.getElem?_eq_getElem (by omega)⟩,Pv (i+1),fun H' p'=>⟨xs.length - (i+1),by omega,rfl,hlt,p'⟩,fun v H' y=>?_⟩
  obtain⟨pa,x1,x2,x3,hn,e1,e2,y1,y2,y3⟩:=y
  subst e1 e2
  exact⟨pa,x1,x2,x3,rfl,.inl (.inl upd_same),hs i x1 x2 x3 pa H (y1 xs q1) (y2 ys q2) (y3 zs q3) p hn⟩
 ·have e:i=xs.length:=by omega
  refine .inl ⟨⟨xs,q1,by omega⟩,?_⟩
  rw [e] at p
  exact hd H p
def spWithin (K:W.Frag):Sp:=fun vs H Q _=>∃(p q:Addr) (a b c x y z:Int),vs=[.ref p,.ref q]∧SqT K H p [.int a,.int b,.int c]∧SqT K H q [.int x,.int y,.int z]∧x<=a∧a<=3∧y<=b∧b<=3∧z<=c∧c<=9∧∀H',Same H H'->Q (.bl true) H'
theorem ok_within {P:Program} {w:World} {K:W.Frag} {mg:Str->Option Value} {base:Heap} (T:Tx K mg):FnOk P w K mg base CX0 1 T.a_within T.fd_within ["form","least"] (spWithin K):=by
 refine T.F_within.ok sc_within (fun vs H Q E h=>?_) (fun cdv A outer s H vs Q E hr h=>?_)
 ·obtain⟨p,q,a,b,c,x,y,z,rfl,_⟩:=h
  rfl
 obtain⟨p,q,a,b,c,x,y,z,rfl,hp,hq,h1,h2,h3,h4,h5,h6,k⟩:=h
 refine⟨_,((pss_one (ps_ret (pe_callB (call_allL rfl) rfl T.z_all boot_all (pa_cons (pe_lcomp3 rfl (blkok3 rfl sub_nil fv_nil2) (pi_zip3 rfl T.z_zip (pa_cons (pv 1) (pa_cons (pv 0) (pa_cons (pe_glob (v:=.ref T.gt_GREATEST.1) rfl T.gt_GREATEST.2.1 rfl) pa_nil)))) (fun _ _ _ _=>(pe_chain op_le op_le (pv 0) (pv 1) (pv 2)))) pa_nil))))),?_⟩
 k_units
 refine⟨_,hq,_,hp,_,T.gt_GREATEST.2.2 H,fun D nD=>?_⟩
 obtain⟨Pc,hPc⟩:∃Pc:Nat->Hp->Prop,∀j Hx,Pc j Hx↔Hx D=some (.lst ((List.replicate j true).map V.bl))∧Same H Hx:=⟨_,fun _ _=>Iff.rfl⟩
 refine cl_zip3 (xs:=[V.int x,V.int y,V.int z]) (ys:=[V.int a,V.int b,V.int c]) (zs:=[V.int 3,V.int 3,V.int 9]) Pc rfl rfl ((hPc _ _).mpr ⟨upd_same,same_upd nD _⟩) (fun i Hx y=>by obtain⟨_,y⟩:=(hPc i Hx).mp y;exact⟨y.seqT hq,y.seqT hp,T.gt_GREATEST.2.2 Hx⟩) ?_ ?_
 ·intro i v1 v2 v3 r Hx e1 e2 e3 hc nr
  obtain⟨k1,k2⟩:=(hPc _ _).mp hc
  obtain⟨x1,x2,x3,rfl,rfl,rfl,l1,l2,hi⟩:∃x1 x2 x3:Int,v1=.int x1∧v2=.int x2∧v3=.int x3∧x1<=x2∧x2<=x3∧i < 3:=by
   match i,e1,e2,e3 with
   | 0,e1,e2,e3=>exact⟨_,_,_,(Option.some.inj e1).symm,(Option.some.inj e2).symm,(Option.some.inj e3).symm,h1,h2,by decide⟩
   | 1,e1,e2,e3=>exact⟨_,_,_,(Option.some.inj e1).symm,(Option.some.inj e2).symm,(Option.some.inj e3).symm,h3,h4,by decide⟩
   | 2,e1,e2,e3=>exact⟨_,_,_,(Option.some.inj e1).symm,(Option.some.inj e2).symm,(Option.some.inj e3).symm,h5,h6,by decide⟩
   | j+3,e1,e2,e3=>simp at e1
  (iterate 3 (k_units;(try simp only [bst3]));k_units)
  rw [if_pos l1]
  have u:=same_upd nr (.tup [V.int x1,V.int x2,V.int x3])
  refine⟨_,u _ _ k1,by rw [List.length_map,List.length_replicate];exact small1000 (by omega),(hPc _ _).mpr ⟨?_,(k2.trans u).more nD⟩⟩
  rw [upd_same,decide_eq_true l2,List.replicate_succ',List.map_append];rfl
 intro Hx hc
 obtain⟨k1,k2⟩:=(hPc _ _).mp hc
 refine⟨D,rfl,_,SqL.of k1,?_⟩
 exact k Hx k2
def spChk (K:W.Frag):Sp:=fun vs H Q _=>∃(p q:Addr) (h l:Int×Int×Int),vs=[.ref p,.ref q]∧SqT K H p [.int h.1,.int h.2.1,.int h.2.2]∧SqT K H q [.int l.1,.int l.2.1,.int l.2.2]∧ChoOk h l∧∀H',Same H H'->Q .non H'
theorem ok_check_choose {P:Program} {w:World} {K:W.Frag} {mg:Str->Option Value} {base:Heap} (T:Tx K mg):FnOk P w K mg base (CXE P w) 2 T.a_check_choose T.fd_check_choose ["upper","lower"] (spChk K):=by
 refine T.F_check_choose.okE sc_check_choose (fun vs H Q E h=>?_) (fun cdv A outer s H vs Q E hr h=>?_)
 ·obtain⟨p,q,h,l,rfl,_⟩:=h
  rfl
 obtain⟨p,q,h,l,rfl,hp,hq,⟨⟨a1,a2,a3,a4,a5,a6⟩,⟨b1,b2,b3,b4,b5,b6⟩,f1,f2⟩,k⟩:=h
 refine⟨_,((pss_cons (ps_if (PT.nox (PW.pt (pw_or (pt_not (pt_val (pe_call (FnOk.mono (ok_within T) (by decide)) hr rfl T.m_within T.F_within.kp T.b_within .nil pass0 (pa_cons (pv 0) (pa_cons (pe_glob (v:=.ref T.gt_UPPER_LEAST.1) rfl T.gt_UPPER_LEAST.2.1 rfl) pa_nil))))) (pw_or1 (pt_not (pt_val (pe_call (FnOk.mono (ok_within T) (by decide)) hr rfl T.m_within T.F_within.kp T.b_within .nil pass0 (pa_cons (pv 1) (pa_cons (pe_glob (v:=.ref T.gt_LOWER_LEAST.1) rfl T.gt_LOWER_LEAST.2.1 rfl) pa_nil))))))))) (pss_one (ps_raise rfl throwE rfl T.mc_NoTerm T.xc_NoTerm (pa_cons pe_str pa_nil))) pss_nil)
  (pss_one (ps_for PassesOwn.leaving rfl (pi_list (pe_call (FnOk.mono (ok_low_forms T) (by decide)) hr rfl T.m_low_forms T.F_low_forms.kp T.b_low_forms .nil pass0 (pa_cons (pv 0) (pa_cons (pv 1) pa_nil)))) (pg_name (i:=2) sc_check_choose.nd rfl (Or.inl rfl)) (pss_one (ps_if (PT.nox (PW.pt (pw_and (pt_cmpR op_eq (pe_ix ix_tup (pv 2) pe_int (fun _ _=>rfl)) pe_int (nomark _)) (pw_and1 (pt_cmpR op_lt (pe_ix ix_tup (pv 2) pe_int (fun _ _=>rfl)) pe_int (nomark _)))))) (pss_one (ps_raise rfl throwE rfl T.mc_NoTerm T.xc_NoTerm (pa_cons pe_str pa_nil))) pss_nil)))))),?_⟩
 k_units
 refine⟨p,T.gt_UPPER_LEAST.1,h.1,h.2.1,h.2.2,0,0,0,rfl,hp,T.gt_UPPER_LEAST.2.2 H,a1,a2,a3,a4,a5,a6,fun H1 s1=>⟨true,rfl,?_⟩⟩
 rw [if_neg (by decide)]
 refine⟨q,T.gt_LOWER_LEAST.1,l.1,l.2.1,l.2.2,-3,-3,-9,rfl,s1.seqT hq,T.gt_LOWER_LEAST.2.2 H1,b1,b2,b3,b4,b5,b6,fun H2 s2=>⟨true,rfl,?_⟩⟩
 rw [if_neg (by decide)]
 have s12:=s1.trans s2
 refine⟨p,q,h.1,h.2.1,h.2.2,l.1,l.2.1,l.2.2,rfl,s12.seqT hp,s12.seqT hq,fun L t H3 s3 nL nt eL et=>⟨L,rfl,⟨_,SqL.of eL⟩,?_⟩⟩
 have s13:=s12.trans s3
 refine lp_list (xs:=[V.ref q,V.ref t]) (fun i σ H'=>∃r:Option V,σ=[some (V.ref p),some (V.ref q),r]∧H'=H3) ⟨none,rfl,rfl⟩ (fun i σ H' _ z=>by obtain⟨_,_,rfl⟩:=z;exact SqL.of eL) ?_ ?_
 ·rintro i v σ H' hv ⟨r,rfl,rfl⟩
  obtain⟨u,f,rfl,eu,nf⟩:∃(u:Addr) (f:Int×Int×Int),v=V.ref u∧SqT K H' u [.int f.1,.int f.2.1,.int f.2.2]∧¬(f.1=0∧f.2.1 < 0):=by
   match i,hv with
   | 0,hv=>exact⟨q,l,(Option.some.inj hv).symm,s13.seqT hq,f1⟩
   | 1,hv=>exact⟨t,subF h l,(Option.some.inj hv).symm,SqT.of et,f2⟩
   | j+2,hv=>simp at hv
  k_units
  refine⟨_,eu,_,rfl,?_⟩
  k_units
  refine ite2 (fun z=>?_) (fun z=>trivial)
  refine⟨_,eu,_,rfl,?_⟩
  k_units
  rw [if_neg (fun z2=>nf ⟨z,z2⟩)]
  trivial
 ·rintro σ H' ⟨r,rfl,rfl⟩
  exact k H' s13
def spChkB (K:W.Frag):Sp:=fun vs H Q _=>∃(p:Addr) (f:Int×Int),vs=[.ref p]∧SqT K H p [.int f.1,.int f.2]∧f.1≠0∧Q .non H
theorem ok_check_base {P:Program} {w:World} {K:W.Frag} {mg:Str->Option Value} {base:Heap} (T:Tx K mg):FnOk P w K mg base (CXE P w) 1 T.a_check_base T.fd_check_base ["fraction"] (spChkB K):=by
 refine T.F_check_base.okE sc_check_base (fun vs H Q E h=>?_) (fun cdv A outer s H vs Q E hr h=>?_)
 ·obtain⟨p,f,rfl,_⟩:=h
  rfl
 obtain⟨p,f,rfl,hp,f0,k⟩:=h
 refine⟨_,((pss_one (ps_if (PT.nox (pt_cmpR op_eq (pe_ix ix_tup (pv 0) pe_int (fun _ _=>rfl)) pe_int (nomark _))) (pss_one (ps_raise rfl throwE rfl T.mc_NoTerm T.xc_NoTerm (pa_cons pe_str pa_nil))) pss_nil))),?_⟩
 k_units
 refine⟨_,hp,_,rfl,?_⟩
 k_units
 rw [if_neg f0]
 exact k
abbrev T3 (f:Int×Int×Int):HO:=.tup [.int f.1,.int f.2.1,.int f.2.2]
abbrev T2 (f:Int×Int):HO:=.tup [.int f.1,.int f.2]
def PtAt (H:Hp) (r:Addr):Prt->Prop
 | .cho h l=>∃a b,H r=some (.tup [.str (Str.ofString "choose"),.ref a,.ref b])∧H a=some (T3 h)∧H b=some (T3 l)
 | .wei f=>∃a,H r=some (.tup [.str (Str.ofString "weight"),.ref a])∧H a=some (T3 f)
 | .pow f=>∃a,H r=some (.tup [.str (Str.ofString "power"),.ref a])∧H a=some (T2 f)
 | .gro f=>∃a,H r=some (.tup [.str (Str.ofString "growth"),.ref a])∧H a=some (T2 f)
def PcAt {K:W.Frag} {mg:Str->Option Value} (T:Tx K mg) (H0 H:Hp) (r:Addr):Prt->Prop
 | .cho h l=>∃dx a L b t,H r=some (.ins T.c_Choose dx (chsF a L))∧H a=some (T3 h)∧H0 L=none∧H L=some (.lst [.ref b,.ref t])∧H b=some (T3 l)∧H t=some (T3 (subF h l))
 | .wei f=>∃dx a,H r=some (.ins T.c_Weight dx (wgtF a))∧H a=some (T3 f)
 | .pow f=>∃dx a,H r=some (.ins T.c_Power dx (powF a))∧H a=some (T2 f)
 | .gro f=>∃dx a,H r=some (.ins T.c_Growth dx (powF a))∧H a=some (T2 f)
inductive Nice (H0:Hp) (a:Addr):HO->Prop where
 | lst {xs:List V} (h:H0 a=none):Nice H0 a (.lst xs)
 | tup {xs:List V}:Nice H0 a (.tup xs)
 | ins {C dx:Addr} {fs:List (Str×V)} (h:fs.lookup (Str.ofString "parts")=none):Nice H0 a (.ins C dx fs)
def Kp (H0 H H':Hp):Prop:=∀a o,H a=some o->Nice H0 a o->H' a=some o
theorem kpS {H0 H H':Hp} (s:Same H H'):Kp H0 H H':=fun a o h _=>s a o h
theorem kpD {H0 H H1:Hp} {D:Addr} {xs ys:List V} (s:Same H H1) (h0:H0 D≠none) (h:H D=some (.lst xs)):Kp H0 H (L2.upd H1 D (.lst ys)):=fun a o e n=>by
 have:a≠D:=fun z=>by
  subst z
  rw [h] at e
  cases e
  cases n with
  | lst z=>exact h0 z
 rw [upd_ne this];exact s _ _ e
theorem PtAt.kt {H H':Hp} {r:Addr} {p:Prt} (h:PtAt H r p) (k:∀a xs,H a=some (.tup xs)->H' a=some (.tup xs)):PtAt H' r p:=by
 match p,h with
 | .cho f l,⟨a,b,h1,h2,h3⟩=>exact⟨a,b,k _ _ h1,k _ _ h2,k _ _ h3⟩
 | .wei f,⟨a,h1,h2⟩=>exact⟨a,k _ _ h1,k _ _ h2⟩
 | .pow f,⟨a,h1,h2⟩=>exact⟨a,k _ _ h1,k _ _ h2⟩
 | .gro f,⟨a,h1,h2⟩=>exact⟨a,k _ _ h1,k _ _ h2⟩
theorem PtAt.on {H H':Hp} {r:Addr} {p:Prt} (h:PtAt H r p) (s:Same H H'):PtAt H' r p:=h.kt fun a xs e=>s a _ e
theorem PcAt.kp {K:W.Frag} {mg:Str->Option Value} {T:Tx K mg} {H0 H H':Hp} {r:Addr} {p:Prt} (h:PcAt T H0 H r p) (k:Kp H0 H H'):PcAt T H0 H' r p:=by
 match p,h with
 | .cho f l,⟨dx,a,L,b,t,h1,h2,h3,h4,h5,h6⟩=>exact⟨dx,a,L,b,t,k _ _ h1 (.ins rfl),k _ _ h2 .tup,h3,k _ _ h4 (.lst h3),k _ _ h5 .tup,k _ _ h6 .tup⟩
 | .wei f,⟨dx,a,h1,h2⟩=>exact⟨dx,a,k _ _ h1 (.ins rfl),k _ _ h2 .tup⟩
 | .pow f,⟨dx,a,h1,h2⟩=>exact⟨dx,a,k _ _ h1 (.ins rfl),k _ _ h2 .tup⟩
 | .gro f,⟨dx,a,h1,h2⟩=>exact⟨dx,a,k _ _ h1 (.ins rfl),k _ _ h2 .tup⟩
theorem PcAt.fr {K:W.Frag} {mg:Str->Option Value} {T:Tx K mg} {H00 H0 H:Hp} {r:Addr} {p:Prt} (h:PcAt T H0 H r p) (s:∀y,H0 y=none->H00 y=none):PcAt T H00 H r p:=by
 match p,h with
 | .cho f l,⟨dx,a,L,b,t,h1,h2,h3,h4⟩=>exact⟨dx,a,L,b,t,h1,h2,s _ h3,h4⟩
 | .wei f,h=>exact h
 | .pow f,h=>exact h
 | .gro f,h=>exact h
theorem PcAt.from {K:W.Frag} {mg:Str->Option Value} {T:Tx K mg} {H00 H0 H:Hp} {r:Addr} {p:Prt} (h:PcAt T H0 H r p) (s:Same H00 H0):PcAt T H00 H r p:=h.fr fun y e=>s.free e
def mkP {K:W.Frag} {mg:Str->Option Value} (T:Tx K mg) (H:Hp) (Q:VK) (p:Prt):Prop:=∀(x:Addr) (H':Hp),Same H H'->PcAt T H H' x p->Q (.ref x) H'
def spPiece {K:W.Frag} {mg:Str->Option Value} (T:Tx K mg):Sp:=fun vs H Q _=>∃(r:Addr) (p:Prt),vs=[.ref r]∧PtAt H r p∧PrtOk p∧mkP T H Q p
theorem mkP.on {K:W.Frag} {mg:Str->Option Value} {T:Tx K mg} {H H1:Hp} {Q:VK} {p:Prt} (k:mkP T H Q p) (s:Same H H1):mkP T H1 Q p:=fun x H' s' h=>k x H' (s.trans s') (h.from s)
theorem same_new {H:Hp} {x dx:Addr} {o u:HO} (hx:H x=none) (hd:H dx=none):Same H (L2.upd (L2.upd H dx u) x o):=fun b v e=>by rw [upd_ne (ne_of_none e hx),upd_ne (ne_of_none e hd)];exact e
theorem mk_cho {K:W.Frag} {mg:Str->Option Value} {T:Tx K mg} {H:Hp} {Q:VK} {E:XK} {a b:Addr} {h l:Int×Int×Int} (ha:H a=some (T3 h)) (hb:H b=some (T3 l)) (k:mkP T H Q (.cho h l)) (x dx:Addr) (hx:H x=none) (hd:H dx=none) (_:dx≠x):
  spCInit K T.c_Choose [.ref x,.ref a,.ref b] (L2.upd (L2.upd H dx (.own x)) x (.ins T.c_Choose dx [])) (fun v H2=>v=V.non∧Q (.ref x) H2) E:=by
 have s1:Same H (L2.upd (L2.upd H dx (.own x)) x (.ins T.c_Choose dx [])):=same_new hx hd
 refine⟨x,dx,a,b,h.1,h.2.1,h.2.2,l.1,l.2.1,l.2.2,rfl,upd_same,SqT.of (s1 _ _ ha),SqT.of (s1 _ _ hb),fun L t H' s2 nL nt ex eL et=>⟨rfl,?_⟩⟩
 have s3:Same H H':=fun y o e=>s2 y o (ne_of_none e hx) (s1 y o e)
 exact k x H' s3 ⟨dx,a,L,b,t,ex,s3 _ _ ha,s1.free nL,eL,s3 _ _ hb,et⟩
theorem mk_wei {K:W.Frag} {mg:Str->Option Value} {T:Tx K mg} {H:Hp} {Q:VK} {E:XK} {a:Addr} {f:Int×Int×Int} (ha:H a=some (T3 f)) (k:mkP T H Q (.wei f)) (x dx:Addr) (hx:H x=none) (hd:H dx=none) (_:dx≠x):
  spWInit T.c_Weight [.ref x,.ref a] (L2.upd (L2.upd H dx (.own x)) x (.ins T.c_Weight dx [])) (fun v H2=>v=V.non∧Q (.ref x) H2) E:=by
 have s1:Same H (L2.upd (L2.upd H dx (.own x)) x (.ins T.c_Weight dx [])):=same_new hx hd
 have s3:Same H (L2.upd (L2.upd (L2.upd H dx (.own x)) x (.ins T.c_Weight dx [])) x (.ins T.c_Weight dx (wgtF a))):=fun y o e=>by rw [upd_ne (ne_of_none e hx)];exact s1 y o e
 exact⟨x,dx,a,rfl,upd_same,rfl,k x _ s3 ⟨dx,a,upd_same,s3 _ _ ha⟩⟩
theorem mk_pow {K:W.Frag} {mg:Str->Option Value} {T:Tx K mg} {H:Hp} {Q:VK} {E:XK} {a:Addr} {f:Int×Int} (ha:H a=some (T2 f)) (k:mkP T H Q (.pow f)) (x dx:Addr) (hx:H x=none) (hd:H dx=none) (_:dx≠x):
  spPInit T.c_Power [.ref x,.ref a] (L2.upd (L2.upd H dx (.own x)) x (.ins T.c_Power dx [])) (fun v H2=>v=V.non∧Q (.ref x) H2) E:=by
 have s1:Same H (L2.upd (L2.upd H dx (.own x)) x (.ins T.c_Power dx [])):=same_new hx hd
 have s3:Same H (L2.upd (L2.upd (L2.upd H dx (.own x)) x (.ins T.c_Power dx [])) x (.ins T.c_Power dx (powF a))):=fun y o e=>by rw [upd_ne (ne_of_none e hx)];exact s1 y o e
 exact⟨x,dx,a,rfl,upd_same,rfl,k x _ s3 ⟨dx,a,upd_same,s3 _ _ ha⟩⟩
theorem mk_gro {K:W.Frag} {mg:Str->Option Value} {T:Tx K mg} {H:Hp} {Q:VK} {E:XK} {a:Addr} {f:Int×Int} (ha:H a=some (T2 f)) (k:mkP T H Q (.gro f)) (x dx:Addr) (hx:H x=none) (hd:H dx=none) (_:dx≠x):
  spPInit T.c_Growth [.ref x,.ref a] (L2.upd (L2.upd H dx (.own x)) x (.ins T.c_Growth dx [])) (fun v H2=>v=V.non∧Q (.ref x) H2) E:=by
 have s1:Same H (L2.upd (L2.upd H dx (.own x)) x (.ins T.c_Growth dx [])):=same_new hx hd
 have s3:Same H (L2.upd (L2.upd (L2.upd H dx (.own x)) x (.ins T.c_Growth dx [])) x (.ins T.c_Growth dx (powF a))):=fun y o e=>by rw [upd_ne (ne_of_none e hx)];exact s1 y o e
 exact⟨x,dx,a,rfl,upd_same,rfl,k x _ s3 ⟨dx,a,upd_same,s3 _ _ ha⟩⟩
theorem ok_piece_of {P:Program} {w:World} {K:W.Frag} {mg:Str->Option Value} {base:Heap} (T:Tx K mg):FnOk P w K mg base (CXE P w) 4 T.a_piece_of T.fd_piece_of ["part"] (spPiece T):=by
 refine T.F_piece_of.okE sc_piece_of (fun vs H Q E h=>?_) (fun cdv A outer s H vs Q E hr h=>?_)
 ·obtain⟨r,p,rfl,_⟩:=h
  rfl
 obtain⟨r,p,rfl,hp,ho,k⟩:=h
 refine⟨_,((pss_cons (ps_if (PT.nox (pt_cmpR op_eq (pe_ix ix_tup (pv 0) pe_int (fun _ _=>rfl)) pe_str (nomark _))) (pss_cons (ps_expr (pe_call (FnOk.mono (ok_check_choose T) (by decide)) hr rfl T.m_check_choose T.F_check_choose.kp T.b_check_choose .nil passE (pa_cons (pe_ix ix_tup (pv 0) pe_int (fun _ _=>rfl)) (pa_cons (pe_ix ix_tup (pv 0) pe_int (fun _ _=>rfl)) pa_nil))))
  (pss_one (PS.nox (ps_ret (pe_make T.mk_Choose (FnOk.mono (ok_Choose___init__ T) (by decide)) hr rfl T.mc_Choose T.b_Choose___init__ .nil pass0 (pa_cons (pe_ix ix_tup (pv 0) pe_int (fun _ _=>rfl)) (pa_cons (pe_ix ix_tup (pv 0) pe_int (fun _ _=>rfl)) pa_nil))))))) pss_nil)
  (pss_cons (PS.nox (ps_if (pt_cmpR op_eq (pe_ix ix_tup (pv 0) pe_int (fun _ _=>rfl)) pe_str (nomark _)) (pss_one (ps_ret (pe_make T.mk_Weight (FnOk.mono (ok_Weight___init__ T) (by decide)) hr rfl T.mc_Weight T.b_Weight___init__ .nil pass0 (pa_cons (pe_ix ix_tup (pv 0) pe_int (fun _ _=>rfl)) pa_nil)))) pss_nil))
  (pss_cons (ps_if (PT.nox (pt_cmpR op_eq (pe_ix ix_tup (pv 0) pe_int (fun _ _=>rfl)) pe_str (nomark _))) (pss_cons (ps_expr (pe_call (FnOk.mono (ok_check_base T) (by decide)) hr rfl T.m_check_base T.F_check_base.kp T.b_check_base .nil passE (pa_cons (pe_ix ix_tup (pv 0) pe_int (fun _ _=>rfl)) pa_nil)))
  (pss_one (PS.nox (ps_ret (pe_make T.mk_Power (FnOk.mono (ok_Power___init__ T) (by decide)) hr rfl T.mc_Power T.b_Power___init__ .nil pass0 (pa_cons (pe_ix ix_tup (pv 0) pe_int (fun _ _=>rfl)) pa_nil)))))) pss_nil)
  (pss_cons (ps_if (PT.nox (pt_cmpR op_eq (pe_ix ix_tup (pv 0) pe_int (fun _ _=>rfl)) pe_str (nomark _))) (pss_cons (ps_expr (pe_call (FnOk.mono (ok_check_base T) (by decide)) hr rfl T.m_check_base T.F_check_base.kp T.b_check_base .nil passE (pa_cons (pe_ix ix_tup (pv 0) pe_int (fun _ _=>rfl)) pa_nil)))
  (pss_one (PS.nox (ps_ret (pe_make T.mk_Growth (FnOk.mono (ok_Growth___init__ T) (by decide)) hr rfl T.mc_Growth T.b_Growth___init__ .nil pass0 (pa_cons (pe_ix ix_tup (pv 0) pe_int (fun _ _=>rfl)) pa_nil)))))) pss_nil)
  (pss_one (ps_raise rfl throwE rfl T.mc_NoTerm T.xc_NoTerm (pa_cons pe_str pa_nil)))))))),?_⟩
 match p,hp,ho,k with
 | .cho h l,⟨a,b,hr',ha,hb⟩,ho,k=>
  dsimp only [a_seq]
  k_typeOf
  refine⟨_,SqT.of hr',_,rfl,?_⟩
  k_units
  exact⟨_,SqT.of hr',_,rfl,_,SqT.of hr',_,rfl,a,b,h,l,rfl,SqT.of ha,SqT.of hb,ho,fun H1 s1=>⟨_,SqT.of (s1 _ _ hr'),_,rfl,_,SqT.of (s1 _ _ hr'),_,rfl,mk_cho (s1 _ _ ha) (s1 _ _ hb) (k.on s1)⟩⟩
 | .wei f,⟨a,hr',ha⟩,ho,k=>
  dsimp only [a_seq]
  k_typeOf
  refine⟨_,SqT.of hr',_,rfl,?_⟩
  k_units
  rw [if_neg (by decide)]
  refine⟨_,SqT.of hr',_,rfl,?_⟩
  k_units
  exact⟨_,SqT.of hr',_,rfl,mk_wei ha k⟩
 | .pow f,⟨a,hr',ha⟩,ho,k=>
  dsimp only [a_seq]
  k_typeOf
  refine⟨_,SqT.of hr',_,rfl,?_⟩
  k_units
  rw [if_neg (by decide)]
  refine⟨_,SqT.of hr',_,rfl,?_⟩
  k_units
  rw [if_neg (by decide)]
  refine⟨_,SqT.of hr',_,rfl,?_⟩
  k_units
  exact⟨_,SqT.of hr',_,rfl,a,f,rfl,SqT.of ha,ho.2.1,_,SqT.of hr',_,rfl,mk_pow ha k⟩
 | .gro f,⟨a,hr',ha⟩,ho,k=>
  dsimp only [a_seq]
  k_typeOf
  refine⟨_,SqT.of hr',_,rfl,?_⟩
  k_units
  rw [if_neg (by decide)]
  refine⟨_,SqT.of hr',_,rfl,?_⟩
  k_units
  rw [if_neg (by decide)]
  refine⟨_,SqT.of hr',_,rfl,?_⟩
  k_units
  rw [if_neg (by decide)]
  refine⟨_,SqT.of hr',_,rfl,?_⟩
  k_units
  exact⟨_,SqT.of hr',_,rfl,a,f,rfl,SqT.of ha,ho.2.1,_,SqT.of hr',_,rfl,mk_gro ha k⟩
structure Pts (H:Hp) (rs:List Addr) (ps:List Prt):Prop where
 len:rs.length=ps.length
 get:∀(i:Nat) (r:Addr) (p:Prt),rs[i]?=some r->ps[i]?=some p->PtAt H r p
structure Pcs {K:W.Frag} {mg:Str->Option Value} (T:Tx K mg) (H0 H:Hp) (qs:List Addr) (ps:List Prt):Prop where
 len:qs.length=ps.length
 get:∀(i:Nat) (q:Addr) (p:Prt),qs[i]?=some q->ps[i]?=some p->PcAt T H0 H q p
theorem Pts.kt {H H':Hp} {rs:List Addr} {ps:List Prt} (h:Pts H rs ps) (k:∀a xs,H a=some (.tup xs)->H' a=some (.tup xs)):Pts H' rs ps:=⟨h.len,fun i r p e1 e2=>(h.get i r p e1 e2).kt k⟩
theorem Pts.on {H H':Hp} {rs:List Addr} {ps:List Prt} (h:Pts H rs ps) (s:Same H H'):Pts H' rs ps:=h.kt fun a xs e=>s a _ e
theorem Pcs.kp {K:W.Frag} {mg:Str->Option Value} {T:Tx K mg} {H0 H H':Hp} {qs:List Addr} {ps:List Prt} (h:Pcs T H0 H qs ps) (k:Kp H0 H H'):Pcs T H0 H' qs ps:=⟨h.len,fun i r p e1 e2=>(h.get i r p e1 e2).kp k⟩
theorem Pcs.from {K:W.Frag} {mg:Str->Option Value} {T:Tx K mg} {H00 H0 H:Hp} {qs:List Addr} {ps:List Prt} (h:Pcs T H0 H qs ps) (s:∀y,H0 y=none->H00 y=none):Pcs T H00 H qs ps:=⟨h.len,fun i r p e1 e2=>(h.get i r p e1 e2).fr s⟩
theorem Pcs.snoc {K:W.Frag} {mg:Str->Option Value} {T:Tx K mg} {H0 H:Hp} {qs:List Addr} {ps:List Prt} {q:Addr} {p:Prt} (h:Pcs T H0 H qs ps) (a:PcAt T H0 H q p):Pcs T H0 H (qs++[q]) (ps++[p]):=by
 refine⟨by simp [h.len],fun i r p' e1 e2=>?_⟩
 by_cases hi:i < qs.length
 ·rw [List.getElem?_append_left hi] at e1
  rw [List.getElem?_append_left (by rw [← h.len];exact hi)] at e2
  exact h.get i r p' e1 e2
 ·rw [List.getElem?_append_right (by omega)] at e1
  rw [List.getElem?_append_right (by have:=h.len;omega),← h.len] at e2
  obtain⟨j,hj⟩:∃j,i - qs.length=j:=⟨_,rfl⟩
  rw [hj] at e1 e2
  cases j with
  | zero=>cases Option.some.inj e1;cases Option.some.inj e2;exact a
  | succ j=>simp at e1
theorem Pts.snoc {H:Hp} {rs:List Addr} {ps:List Prt} {r:Addr} {p:Prt} (h:Pts H rs ps) (a:PtAt H r p):Pts H (rs++[r]) (ps++[p]):=by
 refine⟨by simp [h.len],fun i r' p' e1 e2=>?_⟩
 by_cases hi:i < rs.length
 ·rw [List.getElem?_append_left hi] at e1
  rw [List.getElem?_append_left (by rw [← h.len];exact hi)] at e2
  exact h.get i r' p' e1 e2
 ·rw [List.getElem?_append_right (by omega)] at e1
  rw [List.getElem?_append_right (by have:=h.len;omega),← h.len] at e2
  obtain⟨j,hj⟩:∃j,i - rs.length=j:=⟨_,rfl⟩
  rw [hj] at e1 e2
  cases j with
  | zero=>cases Option.some.inj e1;cases Option.some.inj e2;exact a
  | succ j=>simp at e1
def trmF (P1 P2:Addr):List (Str×V):=[(Str.ofString "parts",.ref P1),(Str.ofString "pieces",.ref P2)]
def TermAt {K:W.Frag} {mg:Str->Option Value} (T:Tx K mg) (H0 H:Hp) (x:Addr) (rs:List Addr) (ps:List Prt):Prop:=∃dx P1 P2 qs,H x=some (.ins T.c_Term dx (trmF P1 P2))∧H0 P1=none∧H P1=some (.lst (rs.map V.ref))∧H0 P2=none∧H P2=some (.lst (qs.map V.ref))∧Pcs T H0 H qs ps
theorem TermAt.kp {K:W.Frag} {mg:Str->Option Value} {T:Tx K mg} {H0 H H':Hp} {x:Addr} {rs:List Addr} {ps:List Prt} (h:TermAt T H0 H x rs ps) (k:Kp H0 H H') (kx:∀C dx fs,H x=some (.ins C dx fs)->H' x=some (.ins C dx fs)):TermAt T H0 H' x rs ps:=by
 obtain⟨dx,P1,P2,qs,h1,h2,h3,h4,h5,h6⟩:=h
 exact⟨dx,P1,P2,qs,kx _ _ _ h1,h2,k _ _ h3 (.lst h2),h4,k _ _ h5 (.lst h4),h6.kp k⟩
theorem TermAt.on {K:W.Frag} {mg:Str->Option Value} {T:Tx K mg} {H0 H H':Hp} {x:Addr} {rs:List Addr} {ps:List Prt} (h:TermAt T H0 H x rs ps) (s:Same H H'):TermAt T H0 H' x rs ps:=h.kp (kpS s) fun C dx fs e=>s _ _ e
def spTInit {K:W.Frag} {mg:Str->Option Value} (T:Tx K mg):Sp:=fun vs H Q _=>∃(x dx A:Addr) (rs:List Addr) (ps:List Prt),vs=[.ref x,.ref A]∧H x=some (.ins T.c_Term dx [])∧H A=some (.lst (rs.map V.ref))∧Pts H rs ps∧(∀p∈ps,PrtOk p)∧1<=ps.length∧ps.length<=6∧
 ∀(P1 P2:Addr) (qs:List Addr) (H':Hp),(∀y o,y≠x->H y=some o->H' y=some o)->H P1=none->H P2=none->H' x=some (.ins T.c_Term dx (trmF P1 P2))->H' P1=some (.lst (rs.map V.ref))->H' P2=some (.lst (qs.map V.ref))->Pcs T H H' qs ps->Q .non H'
theorem ok_Term___init__ {P:Program} {w:World} {K:W.Frag} {mg:Str->Option Value} {base:Heap} (T:Tx K mg):FnOk P w K mg base (CXE P w) 5 T.a_Term___init__ T.fd_Term___init__ ["self","parts"] (spTInit T):=by
 refine T.F_Term___init__.okE sc_Term___init__ (fun vs H Q E h=>?_) (fun cdv A outer s H vs Q E hr h=>?_)
 ·obtain⟨x,dx,A,rs,ps,rfl,_⟩:=h
  rfl
 obtain⟨x,dx,A,rs,ps,rfl,hx,hA,hP,hO,l1,l6,k⟩:=h
 refine⟨_,((pss_cons (ps_if (PT.nox (PW.pt (pw_or (pt_cmpR op_eq (pe_callB call_len_seq rfl T.z_len bt_len (pa_cons (pv 1) pa_nil)) pe_int (nomark _)) (pw_or1 (pt_cmpR op_gt (pe_callB call_len_seq rfl T.z_len bt_len (pa_cons (pv 1) pa_nil)) (pe_glob (v:=.int 6) rfl T.g_MOST_PARTS.2 ⟨_,rfl⟩) (nomark _)))))) pss_never pss_nil)
  (pss_cons (PS.nox (ps_fld (pv 0) (pe_callTy call_list_of rfl T.z_list bt_list (pa_cons (pv 1) pa_nil)) rfl))
  (pss_one (ps_fld (pv 0) (pe_lcomp rfl (blkok rfl sub_nil fv_nil) (pi_list (pv 1)) (fun _ _ _ _=>(pe_call (FnOk.mono (ok_piece_of T) (by decide)) hr rfl T.m_piece_of T.F_piece_of.kp T.b_piece_of .nil passF (pa_cons (pv 0) pa_nil)))) rfl))))),?_⟩
 k_units
 have lr:(rs.map V.ref).length=ps.length:=by rw [List.length_map];exact hP.len
 refine⟨_,.inl (SqL.of hA),?_⟩
 rw [if_neg (by rw [lr];omega)]
 refine⟨_,.inl (SqL.of hA),?_⟩
 rw [if_neg (by rw [lr];omega)]
 refine⟨_,.inl (SqL.of hA),fun P1 nP1=>?_⟩
 have u1:=same_upd nP1 (.lst (rs.map V.ref))
 refine⟨T.c_Term,dx,[],u1 _ _ hx,T.cl_Term,T.na_Term_parts,by decide,?_⟩
 have pf1:putF (Str.ofString "parts") (V.ref P1) []=[(Str.ofString "parts",V.ref P1)]:=rfl
 rw [pf1]
 have xA:A≠x:=ne_of hA hx (fun z=>nomatch z)
 have xP:P1≠x:=fun z=>by rw [z,hx] at nP1;cases nP1
 obtain⟨G,hG⟩:∃G,G=L2.upd (L2.upd H P1 (.lst (rs.map V.ref))) x (.ins T.c_Term dx [(Str.ofString "parts",V.ref P1)]):=⟨_,rfl⟩
 rw [← hG]
 have gx:G x=some (.ins T.c_Term dx [(Str.ofString "parts",V.ref P1)]):=by rw [hG];exact upd_same
 have gk:∀y o,y≠x->H y=some o->G y=some o:=fun y o hy e=>by rw [hG,upd_ne hy];exact u1 _ _ e
 have gP:G P1=some (.lst (rs.map V.ref)):=by rw [hG,upd_ne xP,upd_same]
 have gn:∀y,G y=none->H y=none:=fun y e=>by
  by_cases hy:y=x
  ·rw [hy,gx] at e;cases e
  ·rw [hG,upd_ne hy] at e;exact u1.free e
 have gPt:Pts G rs ps:=hP.kt fun a xs e=>gk a _ (ne_of e hx (fun z=>nomatch z)) e
 clear hG
 refine⟨⟨_,SqL.of (gk _ _ xA hA)⟩,fun D nD=>?_⟩
 obtain⟨G1,hG1⟩:∃G1,G1=L2.upd G D (.lst []):=⟨_,rfl⟩
 have g1D:G1 D=some (.lst []):=by rw [hG1];exact upd_same
 have g1n:∀y,G1 y=none->G y=none:=fun y e=>by rw [hG1] at e;exact (upd_none e).2
 have xD:D≠x:=fun z=>by rw [z,gx] at nD;cases nD
 obtain⟨Pc,hPc⟩:∃Pc:Nat->Hp->Prop,∀j Hx,Pc j Hx↔∃qs:List Addr,Hx D=some (.lst (qs.map V.ref))∧Pcs T G1 Hx qs (ps.take j)∧Same G Hx:=⟨_,fun _ _=>Iff.rfl⟩
 refine cl_list (xs:=rs.map V.ref) Pc ((hPc _ _).mpr ⟨[],upd_same,⟨by simp,fun i q p e=>by simp at e⟩,same_upd nD _⟩) (fun i Hx _ z=>by obtain⟨_,_,_,z⟩:=(hPc i Hx).mp z;exact z.seq (SqL.of (gk _ _ xA hA))) ?_ ?_
 ·intro j v Hx hv hc
  obtain⟨qs,k1,k2,k3⟩:=(hPc _ _).mp hc
  rw [List.getElem?_map] at hv
  obtain⟨r,hr1,rfl⟩:=Option.map_eq_some_iff.mp hv
  have hj:=(List.getElem?_eq_some_iff.mp hr1).1
  have hj2:j < ps.length:=by have:=hP.len;omega
  (iterate 3 (k_units;(try simp only [bst,Option.getD_some]));k_units)
  refine⟨r,ps[j],rfl,(gPt.get j r _ hr1 (List.getElem?_eq_getElem hj2)).on k3,hO _ (List.getElem_mem hj2),fun q H' s' hq=>?_⟩
  have lq:=k2.len
  rw [List.length_take] at lq
  refine⟨_,s' _ _ k1,by rw [List.length_map];exact small1000 (by omega),(hPc _ _).mpr ⟨qs++[q],by rw [upd_same];simp,?_,(k3.trans s').more nD⟩⟩
  have kq:Kp G1 Hx (L2.upd H' D (.lst (qs.map V.ref++[V.ref q]))):=kpD s' (by rw [g1D];simp) k1
  rw [← List.take_append_getElem hj2]
  refine (k2.kp kq).snoc ?_
  have hq1:PcAt T Hx (L2.upd H' D (.lst (qs.map V.ref++[V.ref q]))) q ps[j]:=hq.kp (kpD (Same.refl H') (by rw [k1];simp) (s' _ _ k1))
  exact hq1.fr fun y e=>by
   by_cases hy:y=D
   ·rw [hy,k1] at e;cases e
   ·rw [hG1,upd_ne hy];exact k3.free e
 intro Hx hc
 obtain⟨qs,k1,k2,k3⟩:=(hPc _ _).mp hc
 rw [List.length_map,hP.len,List.take_of_length_le (Nat.le_refl _)] at k2
 refine⟨T.c_Term,dx,_,k3 _ _ gx,T.cl_Term,T.na_Term_pieces,by show 1 < 1000;decide,?_⟩
 have pf2:putF (Str.ofString "pieces") (V.ref D) [(Str.ofString "parts",V.ref P1)]=trmF P1 D:=rfl
 rw [pf2]
 refine k P1 D qs _ (fun y o hy e=>by rw [upd_ne hy];exact k3 _ _ (gk y o hy e)) nP1 (gn _ nD) upd_same (by rw [upd_ne xP];exact k3 _ _ gP) (by rw [upd_ne xD];exact k1) ?_
 refine (k2.kp fun a o e n=>?_).from fun y e=>gn _ (g1n _ e)
 have:a≠x:=fun z=>by
  subst z
  rw [k3 _ _ gx] at e
  cases e
  cases n with
  | ins z=>
   have z':some (V.ref P1)=none:=z
   cases z'
 rw [upd_ne this];exact e
def spTold {K:W.Frag} {mg:Str->Option Value} (T:Tx K mg):Sp:=fun vs H Q _=>∃(x:Addr) (H0:Hp) (rs:List Addr) (ps:List Prt),vs=[.ref x]∧TermAt T H0 H x rs ps∧newL H Q (rs.map V.ref)
theorem ok_Term_told {P:Program} {w:World} {K:W.Frag} {mg:Str->Option Value} {base:Heap} (T:Tx K mg):FnOk P w K mg base CX0 1 T.a_Term_told T.fd_Term_told ["self"] (spTold T):=by
 refine T.F_Term_told.ok sc_Term_told (fun vs H Q E h=>?_) (fun cdv A outer s H vs Q E hr h=>?_)
 ·obtain⟨x,H0,rs,ps,rfl,_⟩:=h
  rfl
 obtain⟨x,H0,rs,ps,rfl,⟨dx,P1,P2,qs,h1,h2,h3,h4,h5,h6⟩,k⟩:=h
 refine⟨_,((pss_one (ps_ret (pe_callTy call_list_of rfl T.z_list bt_list (pa_cons (pe_fld (pv 0) rfl) pa_nil))))),?_⟩
 k_units
 exact⟨_,_,_,h1,T.cl_Term,T.na_Term_parts,_,rfl,P1,rfl,_,.inl (SqL.of h3),fun r nr=>k r _ (same_upd nr _) nr upd_same⟩
def prT:Prt->List Nat
 | .cho h l=>67 :: 40 :: (shF h++(44 :: 32 :: (shF l++[41])))
 | .wei f=>40 :: (shF f++[41])
 | .pow f=>91 :: (shR f++[93,94,107])
 | .gro f=>91 :: (shR f++[93,94,110])
def PrB:Prt->Prop
 | .cho h l=>FBd h 400∧FBd l 400
 | .wei f=>FBd f 400
 | .pow f=>f.1.natAbs < 2 ^ 400∧f.2.natAbs < 2 ^ 400
 | .gro f=>f.1.natAbs < 2 ^ 400∧f.2.natAbs < 2 ^ 400
theorem l_C:Str.ofString "C(" = TX.S [67,40]:=rfl
theorem l_co:Str.ofString ", " = TX.S [44,32]:=rfl
theorem l_cl:Str.ofString ")" = TX.S [41]:=rfl
theorem l_op:Str.ofString "(" = TX.S [40]:=rfl
theorem l_sq:Str.ofString "[" = TX.S [91]:=rfl
theorem l_up:Str.ofString "]^" = TX.S [93,94]:=rfl
theorem all_len {f:Int×Int×Int} (h:FBd f 400):(allT f).length<=393:=by rw [← up_3];exact up_len h 3
theorem shF_len {f:Int×Int×Int} (h:FBd f 400):(shF f).length<=393:=by unfold shF;split;simp;exact all_len h
theorem shR_len {f:Int×Int} (h1:f.1.natAbs < 2 ^ 400) (h2:f.2.natAbs < 2 ^ 400):(shR f).length<=245:=by
 have:=sh_len h1
 have:=sh_len h2
 unfold shR;split
 ·omega
 ·simp;omega
theorem prT_len {p:Prt} (h:PrB p):(prT p).length<=800:=by
 cases p with
 | cho a b=>have:=shF_len h.1;have:=shF_len h.2;simp [prT];omega
 | wei f=>have:=shF_len h;simp [prT];omega
 | pow f=>have:=shR_len h.1 h.2;simp [prT];omega
 | gro f=>have:=shR_len h.1 h.2;simp [prT];omega
def spShP (K:W.Frag):Sp:=fun vs H Q _=>∃(r:Addr) (p:Prt),vs=[.ref r]∧PtAt H r p∧PrB p∧∀H',Same H H'->Q (.str (TX.S (prT p))) H'
theorem w_cc:decide (Str.ofString "choose" = Str.ofString "choose")=true:=by decide +kernel
theorem w_wc:decide (Str.ofString "weight" = Str.ofString "choose")=false:=by decide +kernel
theorem w_ww:decide (Str.ofString "weight" = Str.ofString "weight")=true:=by decide +kernel
theorem w_pc:decide (Str.ofString "power" = Str.ofString "choose")=false:=by decide +kernel
theorem w_pw:decide (Str.ofString "power" = Str.ofString "weight")=false:=by decide +kernel
theorem w_pp:decide (Str.ofString "power" = Str.ofString "power")=true:=by decide +kernel
theorem w_gc:decide (Str.ofString "growth" = Str.ofString "choose")=false:=by decide +kernel
theorem w_gw:decide (Str.ofString "growth" = Str.ofString "weight")=false:=by decide +kernel
theorem w_gp:decide (Str.ofString "growth" = Str.ofString "power")=false:=by decide +kernel
theorem ok_show_part {P:Program} {w:World} {K:W.Frag} {mg:Str->Option Value} {base:Heap} (T:Tx K mg):FnOk P w K mg base CX0 3 T.a_show_part T.fd_show_part ["part"] (spShP K):=by
 refine T.F_show_part.ok sc_show_part (fun vs H Q E h=>?_) (fun cdv A outer s H vs Q E hr h=>?_)
 ·obtain⟨r,p,rfl,_⟩:=h
  rfl
 obtain⟨r,p,rfl,hp,bp,q⟩:=h
 refine⟨_,((pss_cons (ps_if (pt_cmpR op_eq (pe_ix ix_tup (pv 0) pe_int (fun _ _=>rfl)) pe_str (nomark _)) (pss_one (ps_ret (pe_op op_catS (pe_op op_catS (pe_op op_catS (pe_op op_catS pe_str (pe_call (FnOk.mono (ok_show_form T) (by decide)) hr rfl T.m_show_form T.F_show_form.kp T.b_show_form .nil pass0 (pa_cons (pe_ix ix_tup (pv 0) pe_int (fun _ _=>rfl)) pa_nil))) (pe_glob (v:=.str ", ") rfl T.g_BETWEEN_FORMS.2 ⟨_,rfl⟩)) (pe_call (FnOk.mono (ok_show_form T) (by decide)) hr rfl T.m_show_form T.F_show_form.kp T.b_show_form .nil pass0 (pa_cons (pe_ix ix_tup (pv 0) pe_int (fun _ _=>rfl)) pa_nil))) pe_str))) pss_nil)
  (pss_cons (ps_if (pt_cmpR op_eq (pe_ix ix_tup (pv 0) pe_int (fun _ _=>rfl)) pe_str (nomark _)) (pss_one (ps_ret (pe_op op_catS (pe_op op_catS pe_str (pe_call (FnOk.mono (ok_show_form T) (by decide)) hr rfl T.m_show_form T.F_show_form.kp T.b_show_form .nil pass0 (pa_cons (pe_ix ix_tup (pv 0) pe_int (fun _ _=>rfl)) pa_nil))) pe_str))) pss_nil)
  (pss_cons (ps_set (i:=1) sc_show_part.nd rfl (Or.inl rfl) (pe_ifExp (pt_cmpR op_eq (pe_ix ix_tup (pv 0) pe_int (fun _ _=>rfl)) pe_str (nomark _)) pe_str pe_str))
  (pss_one (ps_ret (pe_op op_catS (pe_op op_catS (pe_op op_catS pe_str (pe_call (FnOk.mono (ok_show_ratio T) (by decide)) hr rfl T.m_show_ratio T.F_show_ratio.kp T.b_show_ratio .nil pass0 (pa_cons (pe_ix ix_tup (pv 0) pe_int (fun _ _=>rfl)) pa_nil))) pe_str) (pv 1)))))))),?_⟩
 cases p with
 | cho h l=>
  obtain⟨a,b,hr1,ha,hb⟩:=hp
  obtain⟨b1,b2⟩:=bp
  have l1:=shF_len b1
  have l2:=shF_len b2
  dsimp only [a_seq]
  k_typeOf
  refine⟨_,SqT.of hr1,_,rfl,?_⟩
  rw [a_eqS,w_cc]
  refine⟨_,rfl,?_⟩
  rw [if_pos rfl]
  refine⟨_,SqT.of hr1,_,rfl,a,h,rfl,SqT.of ha,b1,fun H1 s1=>⟨_,rfl,?_,?_,_,SqT.of (s1 _ _ hr1),_,rfl,b,l,rfl,SqT.of (s1 _ _ hb),b2,fun H2 s2=>⟨_,rfl,?_,?_,?_⟩⟩⟩
  ·rw [l_C,TX.S_len,TX.S_len];exact sl_of (by simp;omega)
  ·rw [l_C,l_co,TX.S_app,TX.S_len,TX.S_len];exact sl_of (by simp;omega)
  ·rw [l_C,l_co,TX.S_app,TX.S_app,TX.S_len,TX.S_len];exact sl_of (by simp;omega)
  ·rw [l_C,l_co,l_cl,TX.S_app,TX.S_app,TX.S_app,TX.S_len,TX.S_len];exact sl_of (by simp;omega)
  ·rw [l_C,l_co,l_cl,TX.S_app,TX.S_app,TX.S_app,TX.S_app]
   have:=q _ (s1.trans s2)
   simpa [prT] using this
 | wei f=>
  obtain⟨a,hr1,ha⟩:=hp
  have l1:=shF_len bp
  dsimp only [a_seq]
  k_typeOf
  refine⟨_,SqT.of hr1,_,rfl,?_⟩
  rw [a_eqS,w_wc]
  refine⟨_,rfl,?_⟩
  rw [if_neg (by decide)]
  dsimp only [a_seq]
  k_typeOf
  refine⟨_,SqT.of hr1,_,rfl,?_⟩
  rw [a_eqS,w_ww]
  refine⟨_,rfl,?_⟩
  rw [if_pos rfl]
  refine⟨_,SqT.of hr1,_,rfl,a,f,rfl,SqT.of ha,bp,fun H1 s1=>⟨_,rfl,?_,?_,?_⟩⟩
  ·rw [l_op,TX.S_len,TX.S_len];exact sl_of (by simp;omega)
  ·rw [l_op,l_cl,TX.S_app,TX.S_len,TX.S_len];exact sl_of (by simp;omega)
  ·rw [l_op,l_cl,TX.S_app,TX.S_app]
   have:=q _ s1
   simpa [prT] using this
 | pow f=>
  obtain⟨a,hr1,ha⟩:=hp
  obtain⟨b1,b2⟩:=bp
  have l1:=shR_len b1 b2
  dsimp only [a_seq]
  k_typeOf
  refine⟨_,SqT.of hr1,_,rfl,?_⟩
  rw [a_eqS,w_pc]
  refine⟨_,rfl,?_⟩
  rw [if_neg (by decide)]
  dsimp only [a_seq]
  k_typeOf
  refine⟨_,SqT.of hr1,_,rfl,?_⟩
  rw [a_eqS,w_pw]
  refine⟨_,rfl,?_⟩
  rw [if_neg (by decide)]
  dsimp only [a_seq]
  k_typeOf
  refine⟨_,SqT.of hr1,_,rfl,?_⟩
  rw [a_eqS,w_pp]
  refine⟨_,rfl,?_⟩
  rw [if_pos rfl]
  refine⟨_,SqT.of hr1,_,rfl,a,f,rfl,SqT.of ha,b1,b2,_,rfl,?_,?_,?_,?_⟩
  ·rw [l_sq,TX.S_len,TX.S_len];exact sl_of (by simp;omega)
  ·rw [l_sq,l_up,TX.S_app,TX.S_len,TX.S_len];exact sl_of (by simp;omega)
  ·rw [l_sq,l_up,l_k,TX.S_app,TX.S_app,TX.S_len,TX.S_len];exact sl_of (by simp;omega)
  ·rw [l_sq,l_up,l_k,TX.S_app,TX.S_app,TX.S_app]
   have:=q _ (Same.refl _)
   simpa [prT] using this
 | gro f=>
  obtain⟨a,hr1,ha⟩:=hp
  obtain⟨b1,b2⟩:=bp
  have l1:=shR_len b1 b2
  dsimp only [a_seq]
  k_typeOf
  refine⟨_,SqT.of hr1,_,rfl,?_⟩
  rw [a_eqS,w_gc]
  refine⟨_,rfl,?_⟩
  rw [if_neg (by decide)]
  dsimp only [a_seq]
  k_typeOf
  refine⟨_,SqT.of hr1,_,rfl,?_⟩
  rw [a_eqS,w_gw]
  refine⟨_,rfl,?_⟩
  rw [if_neg (by decide)]
  dsimp only [a_seq]
  k_typeOf
  refine⟨_,SqT.of hr1,_,rfl,?_⟩
  rw [a_eqS,w_gp]
  refine⟨_,rfl,?_⟩
  rw [if_neg (by decide)]
  refine⟨_,SqT.of hr1,_,rfl,a,f,rfl,SqT.of ha,b1,b2,_,rfl,?_,?_,?_,?_⟩
  ·rw [l_sq,TX.S_len,TX.S_len];exact sl_of (by simp;omega)
  ·rw [l_sq,l_up,TX.S_app,TX.S_len,TX.S_len];exact sl_of (by simp;omega)
  ·rw [l_sq,l_up,l_n,TX.S_app,TX.S_app,TX.S_len,TX.S_len];exact sl_of (by simp;omega)
  ·rw [l_sq,l_up,l_n,TX.S_app,TX.S_app,TX.S_app]
   have:=q _ (Same.refl _)
   simpa [prT] using this
theorem cl_vals {K:W.Frag} {a:Addr} {xs zs:List V} {fv:List (Nat×Str)} {te:TE} {Q:VK} {σ:L2.St} {H1:Hp} {D:Addr} (nD:H1 D=none) (hA:SqL K H1 a xs) (hd:zs.length=xs.length) (hl:zs.length<=900)
  (hs:∀(i:Nat) (v z:V) (Hx:Hp) (R:VK),xs[i]?=some v->zs[i]?=some z->Same H1 Hx->(∀H',Same Hx H'->R z H')->te (bst fv σ (some v)) Hx R) (he:newL H1 Q zs):CLoop (Itl K a) fv te Q σ H1 D:=by
 obtain⟨Pc,hPc⟩:∃Pc:Nat->Hp->Prop,∀j Hx,Pc j Hx↔Hx D=some (.lst (zs.take j))∧Same H1 Hx:=⟨_,fun _ _=>Iff.rfl⟩
 refine cl_list (xs:=xs) Pc ((hPc _ _).mpr ⟨upd_same,same_upd nD _⟩) (fun i Hx _ z=>by obtain⟨_,z⟩:=(hPc i Hx).mp z;exact z.seq hA) ?_ ?_
 ·intro j v Hx hv hc
  obtain⟨k1,k3⟩:=(hPc _ _).mp hc
  have hj:j < zs.length:=by have:=(List.getElem?_eq_some_iff.mp hv).1;omega
  refine hs j v _ Hx _ hv (List.getElem?_eq_getElem hj) k3 fun H2 s2=>?_
  refine⟨_,s2 _ _ k1,by rw [List.length_take];exact small1000 (by omega),(hPc _ _).mpr ⟨?_,(k3.trans s2).more nD⟩⟩
  rw [upd_same,← List.take_append_getElem hj]
 intro Hx hc
 obtain⟨k1,k3⟩:=(hPc _ _).mp hc
 rw [← hd,List.take_length] at k1
 exact he D Hx k3 nD k1
def trT (ps:List Prt):List Nat:=TX.jn [32,42,32] (ps.map prT)
theorem l_st:Str.ofString " * " = TX.S [32,42,32]:=rfl
def spShT {K:W.Frag} {mg:Str->Option Value} (T:Tx K mg):Sp:=fun vs H Q _=>∃(x:Addr) (H0:Hp) (rs:List Addr) (ps:List Prt),vs=[.ref x]∧TermAt T H0 H x rs ps∧Pts H rs ps∧ps.length<=6∧(∀p∈ps,PrB p)∧∀H',Same H H'->Q (.str (TX.S (trT ps))) H'
theorem ok_show_term {P:Program} {w:World} {K:W.Frag} {mg:Str->Option Value} {base:Heap} (T:Tx K mg):FnOk P w K mg base CX0 4 T.a_show_term T.fd_show_term ["term"] (spShT T):=by
 refine T.F_show_term.ok sc_show_term (fun vs H Q E h=>?_) (fun cdv A outer s H vs Q E hr h=>?_)
 ·obtain⟨x,H0,rs,ps,rfl,_⟩:=h
  rfl
 obtain⟨x,H0,rs,ps,rfl,hx,hP,l6,bp,q⟩:=h
 refine⟨_,((pss_one (ps_ret (pe_bm PySem.F.plainAttrs_str PySem.F.slot_str_join PySem.F.type_str_join mt_join (pe_glob (v:=.str " * ") rfl T.g_BETWEEN_PARTS.2 ⟨_,rfl⟩) (pa_cons (pe_lcomp rfl (blkok rfl sub_nil fv_nil) (pi_list (pe_meth0 (pv 0) T.cl_Term T.me_Term_told (FnOk.mono (ok_Term_told T) (by decide)) hr T.b_Term_told .nil pass0)) (fun _ _ _ _=>(pe_call (FnOk.mono (ok_show_part T) (by decide)) hr rfl T.m_show_part T.F_show_part.kp T.b_show_part .nil pass0 (pa_cons (pv 0) pa_nil)))) pa_nil))))),?_⟩
 dsimp only [a_seq]
 k_typeOf
 have hx':=hx
 obtain⟨dx,P1,P2,qs,h1,h2,h3,h4,h5,h6⟩:=hx'
 refine⟨_,_,h1,rfl,x,H0,rs,ps,rfl,hx,fun D0 H1 s1 nD0 eD0=>⟨D0,rfl,⟨_,SqL.of eD0⟩,fun D nD=>?_⟩⟩
 refine cl_vals (xs:=rs.map V.ref) (zs:=(ps.map fun p=>TX.S (prT p)).map V.str) nD (SqL.of eD0) (by simp [hP.len]) (by simp;omega) (fun i v z Hx R hv hz sx hR=>?_) fun D' H2 s2 nD' eD'=>⟨D',rfl,_,SqL.of eD',?_,?_⟩
 ·rw [List.getElem?_map] at hv
  obtain⟨r,hr',rfl⟩:=Option.map_eq_some_iff.mp hv
  rw [List.getElem?_map,List.getElem?_map] at hz
  obtain⟨y,hy,rfl⟩:=Option.map_eq_some_iff.mp hz
  obtain⟨p,hp,rfl⟩:=Option.map_eq_some_iff.mp hy
  (iterate 3 (k_units;(try simp only [bst]));k_units)
  exact⟨r,p,rfl,(hP.get i r p hr' hp).on (s1.trans sx),bp p (List.mem_of_getElem? hp),hR⟩
 ·have:=StrLaws.sumLen_le (B:=800) (ps.map fun p=>TX.S (prT p)) fun y hy=>by
   obtain⟨p,hp,rfl⟩:=List.mem_map.mp hy
   rw [TX.S_len];exact prT_len (bp p hp)
  rw [List.length_map] at this ⊢
  rw [l_st,TX.S_len]
  have e:[32,42,32].length=3:=rfl
  rw [e]
  omega
 ·have:=q _ (s1.trans s2)
  rw [l_st,show (ps.map fun p=>TX.S (prT p))=(ps.map prT).map TX.S by rw [List.map_map];rfl,TX.join_S]
  exact this
theorem nb_400 {n:Int} (h:NB n):n.natAbs < 2 ^ 400:=Nat.lt_of_lt_of_le h (by decide +kernel)
def newH (H:Hp) (Q:VK) (v:V):Prop:=∀H',Same H H'->Q v H'
def spRdW:Sp:=fun vs H Q _=>∃t:List Nat,vs=[.str (TX.S t)]∧t.length<=9000∧((∃n,t=TX.shI n∧NB n∧newH H Q (.int n))∨((∀n,t=TX.shI n->¬NB n)∧newH H Q .non))
theorem l_fig:Str.ofString "0123456789" = TX.S [48,49,50,51,52,53,54,55,56,57]:=rfl
def fgT (t:List Nat):List Nat:=if [45].isPrefixOf t then t.drop 1 else t
theorem fg_sh (n:Int):fgT (TX.shI n)=TX.dg n.natAbs:=by
 unfold fgT TX.shI
 by_cases z:n < 0
 ·rw [if_pos z];simp
 ·rw [if_neg z,if_neg]
  intro h
  obtain⟨r,hr⟩:=List.isPrefixOf_iff_prefix.mp h
  have:45∈TX.dg n.natAbs:=by rw [← hr];simp
  have:=TX.dg_all _ 45 this
  omega
theorem dg_back {t:List Nat} (h:PySem.NumText.AllDigits (fgT t)) (ne:fgT t≠[]) (hl:t.length<=640):∃m:Int,PySem.intText? (TX.S t)=some m∧m.natAbs=PySem.NumText.digitsVal (fgT t):=by
 unfold fgT at *
 split at h
 ·rename_i z
  obtain⟨r,rfl⟩:=List.isPrefixOf_iff_prefix.mp z
  rw [if_pos z] at *
  simp only [List.cons_append,List.nil_append,List.drop_succ_cons,List.drop_zero] at *
  exact⟨_,intText_neg (x:=TX.S (45 :: r)) (cs:=r) (TX.S_list _) h ne (by rw [TX.S_len];omega),by omega⟩
 ·rename_i z
  rw [if_neg z] at *
  exact⟨_,intText_digits (x:=TX.S t) (by rw [TX.S_list];exact h) (by rw [TX.S_list];exact ne) (by rw [TX.S_len];omega),by rw [TX.S_list];omega⟩
theorem dgv_lt:∀{cs:List Nat},PySem.NumText.AllDigits cs->PySem.NumText.digitsVal cs < 10 ^ cs.length:=by
 have key:∀(cs:List Nat) (a:Nat),PySem.NumText.AllDigits cs->cs.foldl (fun acc c=>acc * 10+(c - 48)) a < (a+1) * 10 ^ cs.length:=fun cs=>by
  induction cs with
  | nil=>intro a _;simp
  | cons c r ih=>
   intro a h
   have h1:=ih (a * 10+(c - 48)) (fun d hd=>h d (.tail _ hd))
   have h2:=h c (.head _)
   rw [List.foldl_cons,List.length_cons,Nat.pow_succ]
   refine Nat.lt_of_lt_of_le h1 ?_
   rw [← Nat.mul_assoc,Nat.mul_right_comm]
   exact Nat.mul_le_mul_right _ (by omega)
 intro cs h
 have:=key cs 0 h
 rw [Nat.zero_add,Nat.one_mul] at this
 exact this
theorem cl_str {z:List Nat} {bs:List Bool} {fv:List (Nat×Str)} {te:TE} {Q:VK} {σ:L2.St} {H1:Hp} {D:Addr} (nD:H1 D=none) (hd:bs.length=z.length) (hl:z.length<=900)
  (hs:∀(i:Nat) (c:Nat) (b:Bool) (Hx:Hp) (R:VK),z[i]?=some c->bs[i]?=some b->Same H1 Hx->(∀H',Same Hx H'->R (.bl b) H')->te (bst fv σ (some (.str (TX.S [c])))) Hx R) (he:newL H1 Q (bs.map V.bl)):CLoop (Its (TX.S z)) fv te Q σ H1 D:=by
 refine⟨fun i m Hx=>m=z.length - i∧i<=z.length∧Hx D=some (.lst ((bs.take i).map V.bl))∧Same H1 Hx,⟨_,rfl,Nat.zero_le _,upd_same,same_upd nD _⟩,?_⟩
 rintro i m Hx ⟨rfl,hi,k1,k3⟩
 have sz:(TX.S z).cps.size=z.length:=by simp [TX.S]
 by_cases h:i < z.length
 ·refine .inr ⟨by show i < (TX.S z).cps.size;omega,fun H'=>i+1<=z.length∧H' D=some (.lst ((bs.take (i+1)).map V.bl))∧Same H1 H',fun H' p=>⟨z.length - (i+1),by omega,rfl,p⟩,fun v H' y=>?_⟩
  obtain⟨rfl,c,hc,rfl⟩:=y
  have hc':z[i]?=some c:=by simpa [TX.S] using hc
  refine hs i c _ H' _ hc' (List.getElem?_eq_getElem (show i < bs.length by omega)) k3 fun H2 s2=>?_
  refine⟨_,s2 _ _ k1,by rw [List.length_map,List.length_take];exact small1000 (by omega),by omega,?_,(k3.trans s2).more nD⟩
  rw [upd_same,← List.take_append_getElem (show i < bs.length by omega),List.map_append];rfl
 ·refine .inl ⟨by show (TX.S z).cps.size<=i;omega,?_⟩
  rw [List.take_of_length_le (by omega)] at k1
  exact he D Hx k3 nD k1
theorem ok_read_whole {P:Program} {w:World} {K:W.Frag} {mg:Str->Option Value} {base:Heap} (T:Tx K mg):FnOk P w K mg base CX0 1 T.a_read_whole T.fd_read_whole ["text"] spRdW:=by
 refine T.F_read_whole.ok sc_read_whole (fun vs H Q E h=>?_) (fun cdv A outer s H vs Q E hr h=>?_)
 ·obtain⟨t,rfl,_⟩:=h
  rfl
 obtain⟨t,rfl,lt,q⟩:=h
 refine⟨_,((pss_mid (ps_set (i:=1) sc_read_whole.nd rfl (Or.inl rfl) (pe_ifExp (pt_val (pe_bm PySem.F.plainAttrs_str PySem.F.slot_str_startswith PySem.F.type_str_startswith mt_starts (pv 0) (pa_cons pe_str pa_nil))) (pe_slice sl_str (pv 0) (po_some pe_int) po_none) (pv 0)))
  (pss_cons (ps_if (PW.pt (pw_or (pt_cmpR op_eq (pe_callB call_len_str rfl T.z_len bt_len (pa_cons (pv 1) pa_nil)) pe_int (nomark _)) (pw_or1 (pt_cmpR op_gt (pe_callB call_len_str rfl T.z_len bt_len (pa_cons (pv 1) pa_nil)) (pe_glob (v:=.int 60) rfl T.g_MOST_FIGURES.2 ⟨_,rfl⟩) (nomark _))))) (pss_one (ps_ret pe_non)) pss_nil)
  (pss_cons (ps_if (pt_not (pt_val (pe_callB (call_allL rfl) rfl T.z_all boot_all (pa_cons (pe_lcomp rfl (blkok rfl sub_nil fv_nil) (pi_str (pv 1)) (fun _ _ _ _=>(pe_cmpR op_inT (pv 0) (pe_glob (v:=.str "0123456789") rfl T.g_FIGURES.2 ⟨_,rfl⟩) (by with_unfolding_all rfl)))) pa_nil)))) (pss_one (ps_ret pe_non)) pss_nil)
  (pss_cons (ps_set (i:=2) sc_read_whole.nd rfl (Or.inl rfl) (pe_callTy call_intS rfl T.z_int bt_int (pa_cons (pv 0) pa_nil)))
  (pss_one (ps_ret (pe_ifExp (pt_cmpR op_eq (pe_callTy call_str_int rfl T.z_str bt_str (pa_cons (pv 2) pa_nil)) (pv 0) (nomark _)) (pv 2) pe_non)))))))),?_⟩
 obtain⟨M,hM⟩:∃M:L2.St->Hp->Prop,∀σ Hx,M σ Hx↔σ=[some (.str (TX.S t)),some (.str (TX.S (fgT t))),none]∧Hx=H:=⟨_,fun _ _=>Iff.rfl⟩
 refine mid_of M ?_ ?_
 ·k_units
  rw [l_mi,TX.starts_S]
  refine ite2 (fun h=>⟨by rw [TX.S_len];omega,(hM _ _).mpr ⟨?_,rfl⟩⟩) (fun h=>(hM _ _).mpr ⟨?_,rfl⟩)
  ·rw [TX.slice_S]
   unfold fgT
   rw [if_pos h]
   rw [show TX.sx t.length 0 (some 1)=min 1 t.length from rfl,show TX.sx t.length t.length none=t.length from rfl]
   by_cases z:t.length=0
   ·rw [List.eq_nil_of_length_eq_zero z];rfl
   ·rw [show min 1 t.length=1 by omega,List.take_of_length_le (by rw [List.length_drop];omega)]
  ·unfold fgT;rw [if_neg h]
 intro σ Hx hm
 obtain⟨rfl,rfl⟩:=(hM _ _).mp hm
 clear hm hM M
 have lf:(fgT t).length<=9000:=by
  unfold fgT;split
  ·rw [List.length_drop];omega
  ·exact lt
 dsimp only [a_seq]
 k_typeOf
 rw [TX.S_len]
 have no:∀n,t=TX.shI n->NB n->fgT t≠[]∧(fgT t).length<=60∧PySem.NumText.AllDigits (fgT t):=fun n e b=>by
  subst e
  rw [fg_sh]
  exact⟨TX.dg_ne _,TX.dg_len b (by decide),TX.dg_all _⟩
 have bad:¬(fgT t≠[]∧(fgT t).length<=60∧PySem.NumText.AllDigits (fgT t))->newH Hx Q .non:=fun nb=>by
  rcases q with ⟨n,e,b,_⟩ | ⟨_,q⟩
  ·exact absurd (no n e b) nb
  ·exact q
 refine⟨sl_of (by omega),ite2 (fun h0=>bad (fun z=>?_) _ (Same.refl _)) (fun h0=>⟨sl_of (by omega),ite2 (fun h1=>bad (fun z=>?_) _ (Same.refl _)) (fun h1=>?_)⟩)⟩
 ·exact z.1 (List.eq_nil_of_length_eq_zero (by omega))
 ·omega
 dsimp only [a_seq]
 k_typeOf
 refine fun D nD=>?_
 refine cl_str (z:=fgT t) (bs:=(fgT t).map fun c=>decide (48<=c∧c<=57)) nD (by simp) (by omega) (fun i c b Hy R hc hb sx hR=>?_) fun D' H2 s2 nD' eD'=>⟨D',rfl,_,SqL.of eD',?_⟩
 ·rw [List.getElem?_map,hc] at hb
  obtain rfl:decide (48<=c∧c<=57)=b:=Option.some.inj hb
  (iterate 3 (k_units;(try simp only [bst]));k_units)
  have e:(TX.S [c])=⟨#[c]⟩:=rfl
  rw [e,StrLaws.found_one,l_fig,TX.S_list,show decide (c∈[48,49,50,51,52,53,54,55,56,57])=decide (48<=c∧c<=57) from decide_eq_decide.mpr (by simp;omega)]
  exact hR _ (Same.refl _)
 rw [List.all_map]
 refine ite2 (fun h2=>bad (fun z=>?_) _ s2) (fun h2=>?_)
 ·have:((fgT t).all (id ∘ fun c=>decide (48<=c∧c<=57)))=true:=List.all_eq_true.mpr fun c hc=>decide_eq_true (z.2.2 c hc)
  rw [h2] at this;cases this
 have ad:PySem.NumText.AllDigits (fgT t):=fun c hc=>of_decide_eq_true (List.all_eq_true.mp (eq_true_of_ne_false h2) c hc)
 have ne:fgT t≠[]:=fun e=>h0 (by rw [e];rfl)
 have lt':t.length<=61:=by
  have:t.length<=(fgT t).length+1:=by
   unfold fgT;split
   ·rw [List.length_drop];omega
   ·omega
  omega
 obtain⟨m,hm,vm⟩:=dg_back ad ne (by omega)
 have bm:NB m:=by
  unfold NB
  rw [vm]
  exact Nat.lt_of_lt_of_le (dgv_lt ad) (Nat.pow_le_pow_right (by decide) (by omega))
 dsimp only [a_seq]
 k_typeOf
 refine⟨by rw [TX.S_len];omega,m,hm,log_of (nb_400 bm) (by decide) (by decide),?_⟩
 rw [TX.toS]
 refine ite2 (fun h=>?_) (fun h=>?_)
 ·have e:=TX.S_inj h
  rcases q with ⟨n,e',b,q⟩ | ⟨q,_⟩
  ·have:n=m:=by
    have h1:=TX.int_S (n:=n) (by rw [← e'];omega)
    rw [← e',hm] at h1
    exact (Option.some.inj h1).symm
   subst this
   exact q _ s2
  ·exact absurd bm (q m e.symm)
 ·rcases q with ⟨n,e',b,q⟩ | ⟨_,q⟩
  ·have h1:=TX.int_S (n:=n) (by rw [← e'];omega)
   rw [← e',hm] at h1
   cases Option.some.inj h1
   exact absurd (by rw [← e']) h
  ·exact q _ s2
def spRdC:Sp:=fun vs H Q _=>∃t lt:List Nat,vs=[.str (TX.S t),.str (TX.S lt)]∧t.length<=9000∧∀H' v,Same H H'->(v=.non∨∃n,v=.int n∧NB n)->(∀n,NB n->(n≠0∨lt=[])->t++lt=cntT n lt->v=.int n)->Q v H'
theorem sh_45 (n:Int):TX.shI n≠[45]:=by
 unfold TX.shI
 split
 ·intro h
  exact TX.dg_ne _ (List.cons.inj h).2
 ·intro h
  have:=TX.dg_all n.natAbs 45 (by rw [h];exact .head _)
  omega
theorem cnt_inv {t lt:List Nat} {n:Int} (hl:lt≠[]) (n0:n≠0) (h:t++lt=cntT n lt):(t=[]∧n=1)∨(t=[45]∧n=-1)∨(t≠[]∧t≠[45]∧t=TX.shI n):=by
 unfold cntT at h
 split at h
 ·cases List.append_cancel_right h
  exact .inr (.inr ⟨TX.sh_ne _,sh_45 _,rfl⟩)
 ·rename_i z
  have:=not_or.mp z
  split at h
  ·exact .inl ⟨List.append_cancel_right (show t++lt=[]++lt from h),by omega⟩
  ·exact .inr (.inl ⟨List.append_cancel_right (show t++lt=[45]++lt from h),by omega⟩)
theorem S_nil {t:List Nat}:TX.S t=Str.ofString "" ↔ t=[]:=by rw [l_e];exact TX.S_eq
theorem S_mi {t:List Nat}:TX.S t=Str.ofString "-" ↔ t=[45]:=by rw [l_mi];exact TX.S_eq
theorem ok_read_counted {P:Program} {w:World} {K:W.Frag} {mg:Str->Option Value} {base:Heap} (T:Tx K mg):FnOk P w K mg base CX0 2 T.a_read_counted T.fd_read_counted ["text","letter"] spRdC:=by
 refine T.F_read_counted.ok sc_read_counted (fun vs H Q E h=>?_) (fun cdv A outer s H vs Q E hr h=>?_)
 ·obtain⟨t,lt,rfl,_⟩:=h
  rfl
 obtain⟨t,lt,rfl,ll,q⟩:=h
 refine⟨_,((pss_cons (ps_if (PW.pt (pw_and (pt_cmpR op_ne (pv 1) pe_str (nomark _)) (pw_and1 (pt_cmpR op_eq (pv 0) pe_str (nomark _))))) (pss_one (ps_ret pe_int)) pss_nil)
  (pss_cons (ps_if (PW.pt (pw_and (pt_cmpR op_ne (pv 1) pe_str (nomark _)) (pw_and1 (pt_cmpR op_eq (pv 0) pe_str (nomark _))))) (pss_one (ps_ret (pe_un un_neg pe_int))) pss_nil)
  (pss_one (ps_ret (pe_call (FnOk.mono (ok_read_whole T) (by decide)) hr rfl T.m_read_whole T.F_read_whole.kp T.b_read_whole .nil pass0 (pa_cons (pv 0) pa_nil))))))),?_⟩
 dsimp only [a_seq]
 k_typeOf
 simp only [S_nil,S_mi]
 have go:(lt=[]∨(t≠[]∧t≠[45]))->∃t':List Nat,[V.str (TX.S t)]=[.str (TX.S t')]∧t'.length<=9000∧((∃n,t'=TX.shI n∧NB n∧newH H Q (.int n))∨((∀n,t'=TX.shI n->¬NB n)∧newH H Q .non)):=fun hc=>by
  refine⟨t,rfl,ll,?_⟩
  by_cases z:∃n,t=TX.shI n∧NB n
  ·obtain⟨n,e,b⟩:=z
   refine .inl ⟨n,e,b,fun H' s'=>q H' _ s' (.inr ⟨n,rfl,b⟩) fun m bm hm h=>?_⟩
   congr 1
   have h2:t=TX.shI m:=by
    rcases hc with rfl | hc
    ·unfold cntT at h
     rw [if_pos (.inl rfl),List.append_nil,List.append_nil] at h
     exact h
    ·by_cases l0:lt=[]
     ·subst l0
      unfold cntT at h
      rw [if_pos (.inl rfl),List.append_nil,List.append_nil] at h
      exact h
     ·rcases cnt_inv l0 (hm.resolve_right l0) h with h | h | h
      ·exact absurd h.1 hc.1
      ·exact absurd h.1 hc.2
      ·exact h.2.2
   have h3:(TX.shI n).length<=640:=by have:=sh_len (nb_400 b);omega
   have h4:=TX.int_S h3
   rw [← e,h2,TX.int_S (by rw [← h2,e];exact h3)] at h4
   exact (Option.some.inj h4).symm
  ·refine .inr ⟨fun n e b=>z ⟨n,e,b⟩,fun H' s'=>q H' _ s' (.inl rfl) fun m bm hm h=>?_⟩
   exfalso
   by_cases l0:lt=[]
   ·subst l0
    unfold cntT at h
    rw [if_pos (.inl rfl),List.append_nil,List.append_nil] at h
    exact z ⟨m,h,bm⟩
   ·have hc:=hc.resolve_left l0
    rcases cnt_inv l0 (hm.resolve_right l0) h with h | h | h
    ·exact absurd h.1 hc.1
    ·exact absurd h.1 hc.2
    ·exact z ⟨m,h.2.2,bm⟩
 refine ite2 (fun l0=>ite2 (fun h=>?_) (fun h=>?_)) (fun l0=>?_)
 ·refine q _ _ (Same.refl _) (.inr ⟨1,rfl,by unfold NB;decide +kernel⟩) fun n bn hn e=>?_
  rcases cnt_inv l0 (hn.resolve_right l0) e with h1 | h1 | h1
  ·rw [h1.2]
  ·rw [h] at h1;cases h1.1
  ·exact absurd h h1.1
 ·skip
  dsimp only [a_seq]
  k_typeOf
  simp only [S_nil,S_mi]
  rw [if_pos l0]
  refine ite2 (fun h2=>?_) (fun h2=>?_)
  ·refine q _ _ (Same.refl _) (.inr ⟨-1,rfl,by unfold NB;decide +kernel⟩) fun n bn hn e=>?_
   rcases cnt_inv l0 (hn.resolve_right l0) e with h1 | h1 | h1
   ·exact absurd h1.1 h
   ·rw [h1.2]
   ·exact absurd h2 h1.2.1
  ·exact go (.inr ⟨h,h2⟩)
 ·skip
  dsimp only [a_seq]
  k_typeOf
  simp only [S_nil,S_mi]
  rw [if_neg l0]
  exact go (.inl (Classical.not_not.mp l0))
theorem nf47 (n:Int):47∉TX.shI n:=fun h=>by have:=TX.sh_mem h;omega
theorem cut1 {c:Nat}:∀{a a' b b':List Nat},c∉a->c∉a'->a++c :: b=a'++c :: b'->a=a'∧b=b'
 | [],[],_,_,_,_,e=>⟨rfl,(List.cons.inj e).2⟩
 | [],_ :: _,_,_,_,h',e=>absurd (by rw [(List.cons.inj e).1];exact .head _) h'
 | _ :: _,[],_,_,h,_,e=>absurd (by rw [← (List.cons.inj e).1];exact .head _) h
 | _ :: _,_ :: _,_,_,h,h',e=>by
  obtain⟨h1,h2⟩:=cut1 (fun z=>h (.tail _ z)) (fun z=>h' (.tail _ z)) (List.cons.inj e).2
  exact⟨by rw [(List.cons.inj e).1,h1],h2⟩
theorem sh_inj {n m:Int} (bn:NB n) (h:TX.shI n=TX.shI m):n=m:=by
 have h1:(TX.shI n).length<=640:=by have:=sh_len (nb_400 bn);omega
 have h2:=TX.int_S h1
 rw [h,TX.int_S (by rw [← h];exact h1)] at h2
 exact (Option.some.inj h2).symm
theorem shR_a {a b:List Nat} {f:Int×Int} (ha:47∉a) (h:a++47 :: b=shR f):a=TX.shI f.1∧b=TX.shI f.2∧f.2≠1:=by
 unfold shR at h
 split at h
 ·exact absurd (by rw [← h];simp) (nf47 f.1)
 ·rename_i z
  obtain⟨h1,h2⟩:=cut1 ha (nf47 _) h
  exact⟨h1,h2,z⟩
theorem shR_b {t:List Nat} {f:Int×Int} (ht:47∉t) (h:t=shR f):t=TX.shI f.1∧f.2=1:=by
 unfold shR at h
 split at h
 ·rename_i z
  exact⟨h,z⟩
 ·exact absurd (by rw [h];simp) ht
theorem fr_one {x y n d:Int} (h1:1<=y) (h2:Nat.gcd x.natAbs y.natAbs=1) (h3:1<=d) (h4:Nat.gcd n.natAbs d.natAbs=1) (e:x * d=n * y):x=n∧y=d:=by
 have e':x.natAbs * d.natAbs=n.natAbs * y.natAbs:=by rw [← Int.natAbs_mul,e,Int.natAbs_mul]
 have d1:y.natAbs∣d.natAbs:=(Nat.Coprime.symm h2).dvd_of_dvd_mul_left (by rw [e'];exact Nat.dvd_mul_left _ _)
 have d2:d.natAbs∣y.natAbs:=(Nat.Coprime.symm h4).dvd_of_dvd_mul_left (by rw [← e'];exact Nat.dvd_mul_left _ _)
 have e2:=Nat.dvd_antisymm d1 d2
 have e3:y=d:=by omega
 subst e3
 exact⟨Int.eq_of_mul_eq_mul_right (by omega) e,rfl⟩
def rdv (t:List Nat) (v:V):Prop:=(v=.non∧∀n,t=TX.shI n->¬NB n)∨∃n,v=.int n∧t=TX.shI n∧NB n
theorem rdw_of {H:Hp} {Q:VK} {t:List Nat} (h:∀v H',Same H H'->rdv t v->Q v H'):(∃n,t=TX.shI n∧NB n∧newH H Q (.int n))∨((∀n,t=TX.shI n->¬NB n)∧newH H Q .non):=by
 by_cases z:∃n,t=TX.shI n∧NB n
 ·obtain⟨n,e,b⟩:=z
  exact .inl ⟨n,e,b,fun H' s=>h _ H' s (.inr ⟨n,rfl,e,b⟩)⟩
 ·have z':∀n,t=TX.shI n->¬NB n:=fun n e b=>z ⟨n,e,b⟩
  exact .inr ⟨z',fun H' s=>h _ H' s (.inl ⟨rfl,z'⟩)⟩
def spRdR:Sp:=fun vs H Q _=>∃t:List Nat,vs=[.str (TX.S t)]∧t.length<=9000∧(∀f:Int×Int,Frc f->NB f.1->NB f.2->t=shR f->∀r H',Same H H'->H' r=some (T2 f)->Q (.ref r) H')∧((∀f:Int×Int,Frc f->NB f.1->NB f.2->t≠shR f)->newH H Q .non)
theorem ok_read_ratio {P:Program} {w:World} {K:W.Frag} {mg:Str->Option Value} {base:Heap} (T:Tx K mg):FnOk P w K mg base (CXE P w) 3 T.a_read_ratio T.fd_read_ratio ["text"] spRdR:=by
 refine T.F_read_ratio.okE sc_read_ratio (fun vs H Q E h=>?_) (fun cdv A outer s H vs Q E hr h=>?_)
 ·obtain⟨t,rfl,_⟩:=h
  rfl
 obtain⟨t,rfl,ll,qy,qn⟩:=h
 refine⟨_,((pss_cons (PS.nox (ps_set (i:=1) sc_read_ratio.nd rfl (Or.inl rfl) (pe_bm PySem.F.plainAttrs_str PySem.F.slot_str_partition PySem.F.type_str_partition mt_partition (pv 0) (pa_cons pe_str pa_nil))))
  (pss_cons (PS.nox (ps_set (i:=2) sc_read_ratio.nd rfl (Or.inl rfl) (pe_call (FnOk.mono (ok_read_whole T) (by decide)) hr rfl T.m_read_whole T.F_read_whole.kp T.b_read_whole .nil pass0 (pa_cons (pe_ix ix_tup (pv 1) pe_int (fun _ _=>rfl)) pa_nil))))
  (pss_mid (PS.nox (ps_set (i:=3) sc_read_ratio.nd rfl (Or.inl rfl) (pe_ifExp (pt_cmpR op_ne (pe_ix ix_tup (pv 1) pe_int (fun _ _=>rfl)) pe_str (nomark _)) (pe_call (FnOk.mono (ok_read_whole T) (by decide)) hr rfl T.m_read_whole T.F_read_whole.kp T.b_read_whole .nil pass0 (pa_cons (pe_ix ix_tup (pv 1) pe_int (fun _ _=>rfl)) pa_nil)) pe_int)))
  (pss_cons (PS.nox (ps_if (PW.pt (pw_or (pt_cmpR op_isN (pv 2) pe_non (nomark _)) (pw_or (pt_cmpR op_isN (pv 3) pe_non (nomark _)) (pw_or1 (pt_cmpR op_eq (pv 3) pe_int (nomark _)))))) (pss_one (ps_ret pe_non)) pss_nil))
  (pss_cons (ps_set (i:=4) sc_read_ratio.nd rfl (Or.inl rfl) (pe_call (FnOk.mono (ok_ratio T) (by decide)) hr rfl T.m_ratio T.F_ratio.kp T.b_ratio .nil passE (pa_cons (pv 2) (pa_cons (pv 3) pa_nil))))
  (pss_one (PS.nox (ps_ret (pe_ifExp (pt_cmpR op_eq (pe_call (FnOk.mono (ok_show_ratio T) (by decide)) hr rfl T.m_show_ratio T.F_show_ratio.kp T.b_show_ratio .nil pass0 (pa_cons (pv 4) pa_nil)) (pv 0) (nomark _)) (pv 4) pe_non)))))))))),?_⟩
 obtain⟨a,b,c,hp,ha,hb,hc⟩:∃a b c:List Nat,Txt.partition (TX.S t) (TX.S [47])=(TX.S a,TX.S c,TX.S b)∧a.length<=9000∧b.length<=9000∧((c=[47]∧t=a++47 :: b∧47∉a)∨(c=[]∧t=a∧47∉a)):=by
  by_cases z:47∈t
  ·obtain⟨a,b,rfl,ha⟩:=List.eq_append_cons_of_mem z
   simp only [List.length_append,List.length_cons] at ll
   exact⟨a,b,[47],TX.part_yes ha,by omega,by omega,.inl ⟨rfl,rfl,ha⟩⟩
  ·exact⟨t,[],[],TX.part_no z,ll,by simp,.inr ⟨rfl,rfl,z⟩⟩
 obtain⟨M,hM⟩:∃M:L2.St->Hp->Prop,∀σ Hx,M σ Hx↔∃v0 v1 v2,σ=[some (.str (TX.S t)),v0,some v1,some v2,none]∧Same H Hx∧rdv a v1∧((c=[47]∧rdv b v2)∨(c=[]∧v2=.int 1)):=⟨_,fun _ _=>Iff.rfl⟩
 dsimp only [a_seq]
 k_typeOf
 have lS:(TX.S t).length<=100000:=by rw [TX.S_len];omega
 refine⟨by decide,lS,fun p np=>?_⟩
 rw [l_sl,hp]
 obtain⟨H0,e0⟩:∃H0,H0=upd H p (HO.tup [V.str (TX.S a),V.str (TX.S c),V.str (TX.S b)]):=⟨_,rfl⟩
 have s0:Same H H0:=by rw [e0];exact same_upd np _
 have k0:H0 p=some (HO.tup [V.str (TX.S a),V.str (TX.S c),V.str (TX.S b)]):=by rw [e0];exact upd_same
 simp only [← e0]
 dsimp only [a_seq]
 k_typeOf
 refine⟨_,SqT.of k0,_,rfl,a,rfl,ha,rdw_of fun v1 H1 s1 r1=>?_⟩
 have k1:=s1 _ _ k0
 refine mid_of M ?_ ?_
 ·skip
  dsimp only [a_seq]
  k_typeOf
  refine⟨_,SqT.of k1,_,rfl,?_⟩
  rw [a_neS]
  refine⟨_,rfl,ite2 (fun h=>?_) (fun h=>?_)⟩
  ·have h':c≠[]:=fun z=>by rw [decide_eq_true (S_nil.mpr z)] at h;cases h
   refine⟨_,SqT.of k1,_,rfl,b,rfl,hb,rdw_of fun v2 H2 s2 r2=>(hM _ _).mpr ⟨_,_,_,rfl,s0.trans (s1.trans s2),r1,.inl ⟨?_,r2⟩⟩⟩
   rcases hc with hc | hc
   ·exact hc.1
   ·exact absurd hc.1 h'
  ·refine (hM _ _).mpr ⟨_,_,_,rfl,s0.trans s1,r1,.inr ⟨Classical.byContradiction fun z=>h (by rw [decide_eq_false fun e=>z (S_nil.mp e)];rfl),rfl⟩⟩
 intro σ Hx hm
 clear s0 k0 r1 k1 s1 v1 e0 H0 H1
 obtain⟨v0,v1,v2,rfl,sx,r1,r2⟩:=(hM _ _).mp hm
 clear hm hM M
 have key:∀f:Int×Int,NB f.1->NB f.2->t=shR f->v1=.int f.1∧v2=.int f.2:=fun f b1 b2 e=>by
  have h0:a=TX.shI f.1∧((c=[47]∧b=TX.shI f.2)∨(c=[]∧f.2=1)):=by
   rcases hc with ⟨hc,ht,hn⟩ | ⟨hc,ht,hn⟩
   ·rw [ht] at e
    obtain⟨g1,g2,_⟩:=shR_a hn e
    exact⟨g1,.inl ⟨hc,g2⟩⟩
   ·rw [ht] at e
    obtain⟨g1,g2⟩:=shR_b hn e
    exact⟨g1,.inr ⟨hc,g2⟩⟩
  have rd:∀{u:List Nat} {v:V} {n:Int},NB n->u=TX.shI n->rdv u v->v=.int n:=fun bn hu hv=>by
   rcases hv with ⟨_,g⟩ | ⟨m,rfl,g,bm⟩
   ·exact absurd bn (g _ hu)
   ·rw [sh_inj bm (g.symm.trans hu)]
  refine⟨rd b1 h0.1 r1,?_⟩
  rcases h0.2 with ⟨hc',hb'⟩ | ⟨hc',hf⟩
  ·rcases r2 with ⟨_,r2⟩ | ⟨z,_⟩
   ·exact rd b2 hb' r2
   ·rw [hc'] at z;cases z
  ·rcases r2 with ⟨z,_⟩ | ⟨_,r2⟩
   ·rw [hc'] at z;cases z
   ·rw [hf];exact r2
 have w2:v2=.non∨∃n,v2=.int n∧NB n:=by
  rcases r2 with ⟨_,⟨e,_⟩ | ⟨n,e,_,b⟩⟩ | ⟨_,e⟩
  ·exact .inl e
  ·exact .inr ⟨n,e,b⟩
  ·exact .inr ⟨1,e,by unfold NB;decide +kernel⟩
 dsimp only [a_seq]
 k_typeOf
 refine ite2 (fun h=>qn (fun f _ b1 b2 e=>?_) _ sx) (fun h1=>ite2 (fun h=>qn (fun f _ b1 b2 e=>?_) _ sx) (fun h2=>?_))
 ·rw [(key f b1 b2 e).1] at h;cases h
 ·rw [(key f b1 b2 e).2] at h;cases h
 obtain⟨d,rfl,bd⟩:=w2.resolve_left h2
 obtain⟨n,rfl,_,bn⟩:=r1.resolve_left fun z=>h1 z.1
 rw [a_eqI]
 refine⟨_,rfl,ite2 (fun h=>qn (fun f fr b1 b2 e=>?_) _ sx) (fun h3=>?_)⟩
 ·have h5:d=0:=of_decide_eq_true h
  have h6:=V.int.inj (key f b1 b2 e).2
  have:=fr.1
  omega
 have d0:d≠0:=fun z=>h3 (decide_eq_true z)
 dsimp only [a_seq]
 k_typeOf
 refine⟨_,_,rfl,Nat.lt_of_lt_of_le (nb_400 bd) (Nat.pow_le_pow_right (by decide) (by decide)),.inl ⟨d0,fun x y y1 xy e lx ly p np=>?_⟩⟩
 have bx:NB x:=Nat.lt_of_le_of_lt lx bn
 have by':NB y:=Nat.lt_of_le_of_lt ly bd
 have kp:(upd Hx p (HO.tup [V.int x,V.int y])) p=some (T2 (x,y)):=upd_same
 refine⟨p,(x,y),rfl,SqT.of kp,nb_400 bx,nb_400 by',?_⟩
 dsimp only
 rw [a_eqS]
 have sy:=sx.trans (same_upd np (HO.tup [V.int x,V.int y]))
 refine⟨_,rfl,ite2 (fun h=>?_) (fun h=>?_)⟩
 ·exact qy (x,y) ⟨y1,xy⟩ bx by' (TX.S_inj (of_decide_eq_true h)).symm p _ sy kp
 ·refine qn (fun f fr b1 b2 e'=>?_) _ sy
  obtain⟨g1,g2⟩:=key f b1 b2 e'
  obtain⟨rfl,rfl⟩:=fr_one y1 xy fr.1 fr.2 (by rw [← V.int.inj g1,← V.int.inj g2];exact e)
  exact h (decide_eq_true (by rw [e']))
def rp (t:List Nat):List Nat:=t.flatMap fun c=>if c=45 then [43,45] else [c]
theorem rp_app (a b:List Nat):rp (a++b)=rp a++rp b:=by unfold rp;rw [List.flatMap_append]
theorem rp_no:∀{a:List Nat},45∉a->rp a=a
 | [],_=>rfl
 | c :: r,h=>by
  have h1:c≠45:=fun e=>h (by rw [e];exact .head _)
  have h2:=rp_no (a:=r) fun z=>h (.tail _ z)
  unfold rp at h2 ⊢
  rw [List.flatMap_cons,if_neg h1,h2];rfl
theorem rp_len (t:List Nat):(rp t).length<=2 * t.length:=by
 induction t with
 | nil=>simp [rp]
 | cons c r ih=>
  unfold rp at ih ⊢
  rw [List.flatMap_cons,List.length_append,List.length_cons]
  have:(if c=45 then [43,45] else [c]).length<=2:=by split <;> simp
  omega
def spl (c:Nat):List Nat->List (List Nat)
 | []=>[[]]
 | x :: r=>if x=c then [] :: spl c r else ((x :: (spl c r).headD []) :: (spl c r).drop 1)
theorem spl_ne (c:Nat) (t:List Nat):spl c t≠[]:=by
 cases t with
 | nil=>simp [spl]
 | cons x r=>unfold spl;split <;> simp
theorem spl_hd {c:Nat} {t:List Nat}:∃h r,spl c t=h :: r:=by
 cases e:spl c t with
 | nil=>exact absurd e (spl_ne c t)
 | cons h r=>exact⟨h,r,rfl⟩
theorem jn_cons2 {w a b:List Nat} {r:List (List Nat)}:TX.jn w (a :: b :: r)=a++(w++TX.jn w (b :: r)):=by simp [TX.jn]
theorem jn_hd {w h:List Nat} {x:Nat} {r:List (List Nat)}:TX.jn w ((x :: h) :: r)=x :: TX.jn w (h :: r):=by
 cases r with
 | nil=>simp [TX.jn]
 | cons b r=>rw [jn_cons2,jn_cons2];rfl
theorem spl_jn (c:Nat):∀t,TX.jn [c] (spl c t)=t∧∀p∈spl c t,c∉p
 | []=>⟨rfl,fun p hp=>by rw [List.mem_singleton.mp hp];simp⟩
 | x :: r=>by
  obtain⟨h1,h2⟩:=spl_jn c r
  obtain⟨h,tl,e⟩:=spl_hd (c:=c) (t:=r)
  unfold spl
  rw [e] at h1 h2 ⊢
  split
  ·rename_i z
   subst z
   refine⟨by rw [jn_cons2,h1];rfl,fun p hp=>?_⟩
   rcases List.mem_cons.mp hp with rfl | hp
   ·simp
   ·exact h2 p hp
  ·rename_i z
   refine⟨by show TX.jn [c] ((x :: h) :: tl)=_;rw [jn_hd,h1],fun p hp=>?_⟩
   rcases List.mem_cons.mp hp with rfl | hp
   ·intro y
    rcases List.mem_cons.mp y with y | y
    ·exact z y.symm
    ·exact h2 h (.head _) y
   ·exact h2 p (.tail _ hp)
theorem spl_no {c:Nat}:∀{a:List Nat},c∉a->spl c a=[a]
 | [],_=>rfl
 | x :: r,h=>by
  have h1:x≠c:=fun e=>h (by rw [e];exact .head _)
  unfold spl
  rw [if_neg h1,spl_no (a:=r) fun z=>h (.tail _ z)];rfl
theorem spl_app {c:Nat} (b:List Nat):∀a,spl c (a++c :: b)=spl c a++spl c b
 | []=>by
  show (if c=c then [] :: spl c b else _)=_
  rw [if_pos rfl];rfl
 | x :: r=>by
  have ih:=spl_app (c:=c) b r
  obtain⟨h,tl,e⟩:=spl_hd (c:=c) (t:=r)
  rw [e] at ih
  show (if x=c then [] :: spl c (r++c :: b) else ((x :: (spl c (r++c :: b)).headD []) :: (spl c (r++c :: b)).drop 1))=(if x=c then [] :: spl c r else ((x :: (spl c r).headD []) :: (spl c r).drop 1))++_
  rw [ih,e]
  split <;> rfl
theorem split_S {c:Nat} (hc:c < 256) (t:List Nat):Txt.split (TX.S t) (TX.S [c])=(spl c t).map TX.S:=by
 have:=TX.split_jn (w:=[c]) (c:=c) (d:=0) rfl TX.one_get (by simpa using hc) (spl_ne c t) (spl_jn c t).2
 rw [(spl_jn c t).1] at this
 exact this
theorem repl_S (t:List Nat):Txt.replace (TX.S t) (TX.S [45]) (TX.S [43,45])=TX.S (rp t):=by
 have h:=TX.repl_jn (c:=45) (z:=[43,45]) (by decide) (spl_ne 45 t) (spl_jn 45 t).2
 rw [(spl_jn 45 t).1] at h
 rw [h]
 congr 1
 clear h
 induction t with
 | nil=>rfl
 | cons x r ih=>
  obtain⟨h,tl,e⟩:=spl_hd (c:=45) (t:=r)
  rw [e] at ih
  rw [spl,e,show rp (x :: r)=(if x=45 then [43,45] else [x])++rp r from List.flatMap_cons ..,← ih]
  split
  ·rename_i z
   rw [jn_cons2];rfl
  ·show TX.jn _ ((x :: h) :: tl)=_
   rw [jn_hd];rfl
theorem spl_len (c:Nat) (t:List Nat):(spl c t).length<=t.length+1∧∀p∈spl c t,p.length<=t.length:=by
 induction t with
 | nil=>exact⟨by simp [spl],fun p hp=>by rw [List.mem_singleton.mp hp];simp⟩
 | cons x r ih=>
  obtain⟨h,tl,e⟩:=spl_hd (c:=c) (t:=r)
  unfold spl
  rw [e] at ih ⊢
  obtain⟨i1,i2⟩:=ih
  split
  ·refine⟨by simp at *;omega,fun p hp=>?_⟩
   rcases List.mem_cons.mp hp with rfl | hp
   ·simp
   ·have:=i2 p hp;rw [List.length_cons];omega
  ·refine⟨by simp at *;omega,fun p hp=>?_⟩
   rcases List.mem_cons.mp hp with rfl | hp
   ·have:=i2 h (.head _);show (x :: h).length<=_;simp;omega
   ·have:=i2 p (.tail _ hp);rw [List.length_cons];omega
abbrev F3:=Int×Int×Int
def setF (f:F3) (i:Nat) (n:Int):F3:=if i=0 then (n,f.2.1,f.2.2) else if i=1 then (f.1,n,f.2.2) else (f.1,f.2.1,n)
def okP (p:List Nat) (i:Nat) (n:Int):Prop:=i < 3∧NB n∧(n≠0∨i=2)∧p=cntT n (Ltr i)
def Run (N':F3):F3->List (List Nat)->Prop
 | N,[]=>N=N'
 | N,p :: r=>(p=[]∧Run N' N r)∨∃i n,okP p i n∧Run N' (setF N i n) r
theorem run_app {N':F3} {M:F3} {qs:List (List Nat)} (h2:Run N' M qs):∀{ps:List (List Nat)} {N:F3},Run M N ps->Run N' N (ps++qs)
 | [],N,h=>by cases h;exact h2
 | p :: r,N,h=>by
  rcases h with ⟨e,h⟩ | ⟨i,n,o,h⟩
  ·exact .inl ⟨e,run_app h2 h⟩
  ·exact .inr ⟨i,n,o,run_app h2 h⟩
theorem ltr_mem {i c:Nat} (h:c∈Ltr i):c=110∨c=107:=by
 unfold Ltr at h;split at h
 ·simp at h;exact .inl h
 ·split at h
  ·simp at h;exact .inr h
  ·simp at h
theorem cnt_nn {n:Int} (i:Nat) (h:n≠0∨i=2):cntT n (Ltr i)≠[]:=by
 unfold cntT;split
 ·simp [TX.sh_ne]
 ·rename_i z
  have:=not_or.mp z
  split
  ·exact this.1
  ·simp
theorem sh_abs (n:Int):TX.shI n=(if n < 0 then [45] else [])++TX.dg n.natAbs:=by unfold TX.shI;split <;> rfl
theorem cnt_abs (n:Int) (i:Nat) (h:n≠0∨i=2):∃b:List Nat,cntT n (Ltr i)=(if n < 0 then [45] else [])++b∧45∉b∧43∉b:=by
 have lt45:∀{c},c∈Ltr i->c≠45∧c≠43:=fun h=>by rcases ltr_mem h with rfl | rfl <;> decide
 have d45:∀{c},c∈TX.dg n.natAbs->c≠45∧c≠43:=fun h=>by have:=TX.dg_all _ _ h;omega
 unfold cntT;split
 ·refine⟨TX.dg n.natAbs++Ltr i,by rw [sh_abs,List.append_assoc],fun z=>?_,fun z=>?_⟩
  ·rcases List.mem_append.mp z with z | z
   ·exact (d45 z).1 rfl
   ·exact (lt45 z).1 rfl
  ·rcases List.mem_append.mp z with z | z
   ·exact (d45 z).2 rfl
   ·exact (lt45 z).2 rfl
 ·rename_i z
  have:=not_or.mp z
  refine⟨Ltr i,?_,fun z=>(lt45 z).1 rfl,fun z=>(lt45 z).2 rfl⟩
  split
  ·rw [if_neg (by omega)];rfl
  ·have n0:n≠0:=h.resolve_right fun e=>this.1 (by rw [e];rfl)
   rw [if_pos (by omega)];rfl
theorem cnt_43 (n:Int) (i:Nat) (h:n≠0∨i=2):43∉cntT n (Ltr i):=by
 obtain⟨b,e,_,h3⟩:=cnt_abs n i h
 rw [e]
 intro z
 rcases List.mem_append.mp z with z | z
 ·split at z <;> simp at z
 ·exact h3 z
theorem rp_cnt (n:Int) (i:Nat) (h:n≠0∨i=2):rp (cntT n (Ltr i))=(if n < 0 then [43] else [])++cntT n (Ltr i):=by
 obtain⟨b,e,h2,_⟩:=cnt_abs n i h
 rw [e,rp_app,rp_no h2]
 split <;> rfl
def Inv (acc:List Nat) (N:F3):Prop:=(acc=[]∧N=(0,0,0))∨(acc≠[]∧Run N (0,0,0) (spl 43 (rp acc)))
theorem inv_step {acc:List Nat} {N:F3} {n:Int} {i:Nat} (h:Inv acc N) (hi:i < 3) (bn:NB n) (hz:setF N i 0=N):Inv (stepT acc n (Ltr i)) (setF N i n):=by
 unfold stepT
 split
 ·rename_i z;rw [z,hz];exact h
 rename_i z
 have o:okP (cntT n (Ltr i)) i n:=⟨hi,bn,.inl z,rfl⟩
 have ne:=cnt_nn i (.inl z:n≠0∨i=2)
 have h43:=cnt_43 n i (.inl z)
 refine .inr ⟨by simp [ne],?_⟩
 have one:∀M,Run (setF M i n) M [cntT n (Ltr i)]:=fun M=>.inr ⟨i,n,o,rfl⟩
 rw [rp_app,rp_app,rp_cnt n i (.inl z)]
 rcases h with ⟨rfl,rfl⟩ | ⟨ha,h⟩
 ·rw [if_neg (fun z=>z.2 rfl)]
  by_cases neg:n < 0
  ·rw [if_pos neg]
   have e:rp []++(rp []++([43]++cntT n (Ltr i)))=[]++43 :: cntT n (Ltr i):=rfl
   rw [e,spl_app,spl_no h43]
   exact .inl ⟨rfl,one _⟩
  ·rw [if_neg neg]
   have e:rp []++(rp []++([]++cntT n (Ltr i)))=cntT n (Ltr i):=rfl
   rw [e,spl_no h43]
   exact one _
 ·have e:rp (if 0 < n∧acc≠[] then [43] else [])++((if n < 0 then [43] else [])++cntT n (Ltr i))=43 :: cntT n (Ltr i):=by
   by_cases neg:n < 0
   ·rw [if_pos neg,if_neg (fun z=>by omega)];rfl
   ·rw [if_neg neg,if_pos ⟨by omega,ha⟩];rfl
  rw [e,spl_app,spl_no h43]
  exact run_app (one _) h
def NF (f:F3):Prop:=NB f.1∧NB f.2.1∧NB f.2.2
theorem run_form {f:F3} (h:NF f):Run f (0,0,0) (spl 43 (rp (shF f))):=by
 have i0:Inv [] (0,0,0):=.inl ⟨rfl,rfl⟩
 have i1:=inv_step (n:=f.1) (i:=0) i0 (by decide) h.1 rfl
 have i2:=inv_step (n:=f.2.1) (i:=1) i1 (by decide) h.2.1 rfl
 have i3:=inv_step (n:=f.2.2) (i:=2) i2 (by decide) h.2.2 rfl
 have i4:Inv (allT f) f:=i3
 unfold shF
 rcases i4 with ⟨e,e2⟩ | ⟨e,r⟩
 ·rw [if_pos e]
  exact .inr ⟨2,0,⟨by decide,by unfold NB;decide +kernel,.inr rfl,by decide +kernel⟩,e2.symm⟩
 ·rw [if_neg e];exact r
theorem nf_set {N:F3} {j:Nat} {n:Int} (bN:NF N) (bn:NB n):NF (setF N j n):=by
 unfold setF
 split
 ·exact⟨bn,bN.2.1,bN.2.2⟩
 ·split
  ·exact⟨bN.1,bn,bN.2.2⟩
  ·exact⟨bN.1,bN.2.1,bn⟩
theorem setF_l {N:F3} {j:Nat} {n:Int} (hj:j < 3):[V.int N.1,V.int N.2.1,V.int N.2.2].set j (V.int n)=[V.int (setF N j n).1,V.int (setF N j n).2.1,V.int (setF N j n).2.2]:=by
 match j,hj with
 | 0,_=>rfl
 | 1,_=>rfl
 | 2,_=>rfl
theorem ix3 {j:Nat} (hj:j < 3):ixN 3 (j:Int)=some j:=by
 match j,hj with
 | 0,_=>rfl
 | 1,_=>rfl
 | 2,_=>rfl
theorem ltr_ix {j:Nat} (hj:j < 3):(Str.ofString "n" = TX.S (Ltr j)∧j=0)∨(Str.ofString "n" ≠ TX.S (Ltr j)∧Str.ofString "k" = TX.S (Ltr j)∧j=1)∨(Str.ofString "n" ≠ TX.S (Ltr j)∧Str.ofString "k" ≠ TX.S (Ltr j)∧Str.ofString "" = TX.S (Ltr j)∧j=2):=by
 rw [l_n,l_k,l_e]
 simp only [TX.S_eq,ne_eq]
 match j,hj with
 | 0,_=>decide
 | 1,_=>decide
 | 2,_=>decide
theorem at_lastN (q:List Nat) (c:Nat):atI (q++[c]) (-1)=some c:=by
 have hl:0 < (q++[c]).length:=by simp
 unfold atI
 have e:=ixN_neg (n:=(q++[c]).length) (i:=1) (by decide) hl
 have e1:(-((1:Nat):Int))=-1:=rfl
 rw [e1] at e
 rw [e]
 show (q++[c])[(q++[c]).length - 1]?=_
 simp
theorem inV_l (c:Nat):inV (V.str ⟨#[c]⟩) [.str "n",.str "k",.str ""]=decide (c=110∨c=107):=by
 unfold inV
 rw [show ([V.str (Str.ofString "n"),V.str (Str.ofString "k"),V.str (Str.ofString "")].any fun y=>eqV y (V.str ⟨#[c]⟩))=(decide (Str.ofString "n" = TX.S [c]) || (decide (Str.ofString "k" = TX.S [c]) || (decide (Str.ofString "" = TX.S [c]) || false))) by
  simp only [List.any_cons,List.any_nil,eqV]
  rfl]
 rw [l_n,l_k,l_e]
 simp only [TX.S_eq]
 rw [Bool.eq_iff_iff]
 simp
 omega
theorem cnt_last {q:List Nat} {c j:Nat} {n:Int} (o:okP (q++[c]) j n):(j=0∧c=110)∨(j=1∧c=107)∨(j=2∧c≠110∧c≠107):=by
 obtain⟨hj,_,_,e⟩:=o
 have lst:∀d,Ltr j=[d]->c=d:=fun d hd=>by
  obtain⟨x,hx⟩:∃x,cntT n (Ltr j)=x++[d]:=by
   rw [hd];unfold cntT;split
   ·exact⟨_,rfl⟩
   ·split
    ·exact⟨[],rfl⟩
    ·exact⟨[45],rfl⟩
  rw [hx] at e
  exact List.singleton_inj.mp (List.append_inj_right' e rfl)
 match j,hj,e,lst with
 | 0,_,_,lst=>exact .inl ⟨rfl,lst 110 rfl⟩
 | 1,_,_,lst=>exact .inr (.inl ⟨rfl,lst 107 rfl⟩)
 | 2,_,e,_=>
  refine .inr (.inr ⟨rfl,?_⟩)
  have e':q++[c]=TX.shI n:=by
   rw [e];unfold cntT;rw [if_pos (.inl rfl)];exact List.append_nil _
  have hc:c∈TX.shI n:=by rw [← e'];simp
  have:=TX.sh_mem hc
  omega
def spRdF:Sp:=fun vs H Q _=>∃t:List Nat,vs=[.str (TX.S t)]∧t.length<=3000∧(∀f:F3,NF f->t=shF f->∀r H',Same H H'->H' r=some (T3 f)->Q (.ref r) H')∧((∀f:F3,NF f->t≠shF f)->newH H Q .non)
theorem l_pm:Str.ofString "+-" = TX.S [43,45]:=rfl
theorem ok_read_form {P:Program} {w:World} {K:W.Frag} {mg:Str->Option Value} {base:Heap} (T:Tx K mg):FnOk P w K mg base CX0 3 T.a_read_form T.fd_read_form ["text"] spRdF:=by
 refine T.F_read_form.ok sc_read_form (fun vs H Q E h=>?_) (fun cdv A outer s H vs Q E hr h=>?_)
 ·obtain⟨t,rfl,_⟩:=h
  rfl
 obtain⟨t,rfl,ll,qy,qn⟩:=h
 refine⟨_,((pss_consZ (ps_setT (i:=1) sc_read_form.nd rfl rfl (pe_lst (pa_cons pe_int (pa_cons pe_int (pa_cons pe_int pa_nil))))) (ps_forZ PassesOwn.never rfl (pi_listZ (pe_bmZ PySem.F.plainAttrs_str PySem.F.slot_str_split PySem.F.type_str_split mt_split (pe_replZ (i:=0) rfl rfl (by decide) (by decide)) (pa_cons pe_str pa_nil))) (pg_name (i:=2) sc_read_form.nd rfl (Or.inl rfl)) (pss_cons (ps_if (pt_cmpR op_eq (pv 2) pe_str (nomark _)) (pss_one ps_continue) pss_nil)
  (pss_mid (ps_set (i:=3) sc_read_form.nd rfl (Or.inl rfl) (pe_ifExp (pt_cmpR op_in_seq (pe_ix ix_str (pv 2) (pe_un un_neg pe_int) (fun _ _=>rfl)) (pe_glob (v:=.ref T.gt_LETTERS.1) rfl T.gt_LETTERS.2.1 rfl) (by with_unfolding_all rfl)) (pe_ix ix_str (pv 2) (pe_un un_neg pe_int) (fun _ _=>rfl)) pe_str))
  (pss_cons (ps_set (i:=4) sc_read_form.nd rfl (Or.inl rfl) (pe_call (FnOk.mono (ok_read_counted T) (by decide)) hr rfl T.m_read_counted T.F_read_counted.kp T.b_read_counted .nil pass0 (pa_cons (pe_slice sl_str (pv 2) po_none (po_some (pe_op op_sub (pe_callB call_len_str rfl T.z_len bt_len (pa_cons (pv 2) pa_nil)) (pe_callB call_len_str rfl T.z_len bt_len (pa_cons (pv 3) pa_nil))))) (pa_cons (pv 3) pa_nil))))
  (pss_cons (ps_if (pt_cmpR op_isN (pv 4) pe_non (nomark _)) (pss_one (ps_ret pe_non)) pss_nil)
  (pss_one (ps_asg (pv 4) (pg_sub (pv 1) (pe_bm PySem.F.plainAttrs_tuple PySem.F.slot_tuple_index PySem.F.type_tuple_index mt_tindex (pe_glob (v:=.ref T.gt_LETTERS.1) rfl T.gt_LETTERS.2.1 rfl) (pa_cons (pv 3) pa_nil)) set_list))))))))
  (pss_cons (ps_set (i:=5) sc_read_form.nd rfl (Or.inl rfl) (pe_callTy call_tuple_of rfl T.z_tuple bt_tuple (pa_cons (pv 1) pa_nil)))
  (pss_one (ps_ret (pe_ifExp (pt_cmpR op_eq (pe_call (FnOk.mono (ok_show_form T) (by decide)) hr rfl T.m_show_form T.F_show_form.kp T.b_show_form .nil pass0 (pa_cons (pv 5) pa_nil)) (pv 0) (nomark _)) (pv 5) pe_non)))))),?_⟩
 dsimp only [a_seq]
 k_typeOf
 refine⟨by decide,fun p np=>?_⟩
 dsimp only [a_seq]
 k_typeOf
 obtain⟨ps,hps⟩:∃ps,ps=spl 43 (rp t):=⟨_,rfl⟩
 obtain⟨l1,l2⟩:=spl_len 43 (rp t)
 have l3:=rp_len t
 rw [← hps] at l1 l2
 rw [l_mi,l_pm,l_pl,repl_S,split_S (by decide),← hps]
 refine⟨by rw [TX.S_len];omega,by decide,by rw [TX.S_len];omega,by rw [List.length_map];omega,fun D nD=>?_⟩
 obtain⟨nDp,nD'⟩:=upd_none nD
 obtain⟨Pv,hPv⟩:∃Pv:Nat->L2.St->Hp->Prop,∀i σ Hx,Pv i σ Hx↔∃r2 r3 r4 N,σ=[some (.str (TX.S t)),some (.ref p),r2,r3,r4,none]∧Hx p=some (.lst [.int N.1,.int N.2.1,.int N.2.2])∧Hx D=some (.lst ((ps.map TX.S).map V.str))∧Same H Hx∧NF N∧∀f,NF f->t=shF f->Run f N (ps.drop i):=⟨_,fun _ _ _=>Iff.rfl⟩
 refine⟨D,rfl,⟨_,SqL.of upd_same⟩,lp_list (xs:=(ps.map TX.S).map V.str) Pv ((hPv _ _ _).mpr ⟨_,_,_,(0,0,0),rfl,(upd_ne (Ne.symm nDp)).trans upd_same,upd_same,(same_upd np _).trans (same_upd nD _),?_,?_⟩) (fun i σ Hx _ z=>?_) ?_ ?_⟩
 ·refine⟨?_,?_,?_⟩ <;> (show NB 0;unfold NB;decide +kernel)
 ·intro f bf e
  rw [hps,e]
  exact run_form bf
 ·obtain⟨_,_,_,_,_,_,z,_⟩:=(hPv _ _ _).mp z
  exact SqL.of z
 ·intro i v σ Hx e1 z
  obtain⟨r2,r3,r4,N,rfl,kp,kD,sH,bN,rN⟩:=(hPv _ _ _).mp z
  rw [List.getElem?_map,List.getElem?_map] at e1
  obtain⟨y,hy,rfl⟩:=Option.map_eq_some_iff.mp e1
  obtain⟨pc,hpc,rfl⟩:=Option.map_eq_some_iff.mp hy
  have lp:=l2 pc (List.mem_of_getElem? hpc)
  have hdr:ps.drop i=pc :: ps.drop (i+1):=by
   obtain⟨hi,e⟩:=List.getElem?_eq_some_iff.mp hpc
   rw [List.drop_eq_getElem_cons hi,e]
  rw [hdr] at rN
  clear e1 hy z hdr
  dsimp only [a_seq]
  k_typeOf
  simp only [S_nil]
  refine ite2 (fun h=>?_) (fun h=>?_)
  ·refine (hPv _ _ _).mpr ⟨_,_,_,N,rfl,kp,kD,sH,bN,fun f bf e=>?_⟩
   rcases rN f bf e with ⟨_,r⟩ | ⟨j,n,⟨_,_,o,e'⟩,_⟩
   ·exact r
   ·exact absurd (e'.symm.trans h) (cnt_nn j o)
  obtain⟨qc,c,rfl⟩:∃qc c,pc=qc++[c]:=⟨_,_,(List.dropLast_concat_getLast h).symm⟩
  obtain⟨j,lt,hj,rfl,hcj⟩:∃(j:Nat) (lt:List Nat),j < 3∧lt=Ltr j∧((j=0∧c=110)∨(j=1∧c=107)∨(j=2∧c≠110∧c≠107)):=by
   by_cases h1:c=110
   ·exact⟨0,_,by decide,rfl,.inl ⟨rfl,h1⟩⟩
   ·by_cases h2:c=107
    ·exact⟨1,_,by decide,rfl,.inr (.inl ⟨rfl,h2⟩)⟩
    ·exact⟨2,_,by decide,rfl,.inr (.inr ⟨rfl,h1,h2⟩)⟩
  have lS:(TX.S (qc++[c])).length<=100000:=by rw [TX.S_len];omega
  obtain⟨M,hM⟩:∃M:L2.St->Hp->Prop,∀σ Hy,M σ Hy↔σ=[some (.str (TX.S t)),some (.ref p),some (.str (TX.S (qc++[c]))),some (.str (TX.S (Ltr j))),r4,none]∧Hy=Hx:=⟨_,fun _ _=>Iff.rfl⟩
  refine mid_of M ?_ ?_
  ·skip
   dsimp only [a_seq]
   k_typeOf
   have hat:atI (TX.S (qc++[c])).cps.toList (-1)=some c:=by rw [TX.S_list];exact at_lastN _ _
   refine⟨Nat.le_trans lS (by decide),c,hat,_,.inr (T.gt_LETTERS.2.2.1 _),rfl,rfl,?_⟩
   rw [show inV (V.str ⟨#[c]⟩) [.str "n",.str "k",.str ""]=decide (c=110∨c=107) from inV_l c]
   refine ite2 (fun h=>⟨Nat.le_trans lS (by decide),c,hat,(hM _ _).mpr ⟨?_,rfl⟩⟩) (fun h=>(hM _ _).mpr ⟨?_,rfl⟩)
   ·have h':=of_decide_eq_true h
    have e:Ltr j=[c]:=by
     rcases hcj with ⟨rfl,rfl⟩ | ⟨rfl,rfl⟩ | ⟨_,z1,z2⟩
     ·rfl
     ·rfl
     ·exact absurd h' (not_or.mpr ⟨z1,z2⟩)
    rw [e];rfl
   ·have e:j=2:=by
     rcases hcj with ⟨_,z⟩ | ⟨_,z⟩ | ⟨z,_⟩
     ·exact absurd (decide_eq_true (.inl z)) h
     ·exact absurd (decide_eq_true (.inr z)) h
     ·exact z
    rw [e];rfl
  intro σ Hy hm
  obtain⟨rfl,rfl⟩:=(hM _ _).mp hm
  clear hm hM M
  dsimp only [a_seq]
  k_typeOf
  obtain⟨xq,hxq,hxl⟩:∃xq,xq++Ltr j=qc++[c]∧Txt.slice (TX.S (qc++[c])) none (some (↑(TX.S (qc++[c])).length - ↑(TX.S (Ltr j)).length))=TX.S xq:=by
   have ljc:Ltr j=[]∨Ltr j=[c]:=by
    rcases hcj with ⟨rfl,rfl⟩ | ⟨rfl,rfl⟩ | ⟨rfl,_⟩
    ·exact .inr rfl
    ·exact .inr rfl
    ·exact .inl rfl
   have hs:∀k:Nat,k<=(qc++[c]).length->Txt.slice (TX.S (qc++[c])) none (some (((qc++[c]).length:Int) - (k:Int)))=TX.S ((qc++[c]).take ((qc++[c]).length - k)):=fun k hk=>by
    rw [TX.slice_S]
    congr 1
    have e:TX.sx (qc++[c]).length (qc++[c]).length (some (((qc++[c]).length:Int) - (k:Int)))=(qc++[c]).length - k:=by
     show (if _ < 0 then _ else _)=_
     rw [if_neg (by omega)]
     omega
    rw [e];rfl
   rw [TX.S_len,TX.S_len]
   rcases ljc with e | e
   ·refine⟨qc++[c],by rw [e,List.append_nil],?_⟩
    rw [e]
    refine (hs 0 (Nat.zero_le _)).trans ?_
    rw [Nat.sub_zero,List.take_length]
   ·refine⟨qc,by rw [e],?_⟩
    rw [e]
    refine (hs 1 (by simp)).trans ?_
    congr 1
    simp
  rw [hxl]
  have lx:xq.length<=9000:=by
   have:=congrArg List.length hxq
   rw [List.length_append] at this
   omega
  refine⟨Nat.le_trans lS (by decide),by rw [TX.S_len];have:=ltr_len j;exact sl_of (by omega),lS,xq,Ltr j,rfl,lx,fun H1 v s1 hv hk=>?_⟩
  have jj:∀{j' n'},okP (qc++[c]) j' n'->j'=j∧v=.int n':=fun {j' n'} o=>by
   have e:j'=j:=by
    rcases cnt_last o with z | z | z <;> rcases hcj with y | y | y <;> omega
   subst e
   refine⟨rfl,hk n' o.2.1 ?_ (hxq.trans o.2.2.2)⟩
   rcases o.2.2.1 with z | z
   ·exact .inl z
   ·exact .inr (by rw [z];rfl)
  dsimp only [a_seq]
  k_typeOf
  refine ite2 (fun hn=>qn (fun f bf e=>?_) _ (sH.trans s1)) (fun hn=>?_)
  ·rcases rN f bf e with ⟨z,_⟩ | ⟨j',n',o,_⟩
   ·exact h z
   ·have:=(jj o).2
    rw [hn] at this;cases this
  obtain⟨n,rfl,bn⟩:=hv.resolve_left hn
  have hL:SqT K H1 T.gt_LETTERS.1 [.str "n",.str "k",.str ""]:=T.gt_LETTERS.2.2.1 _
  refine⟨.inr (.inl ⟨rfl,T.gt_LETTERS.2.2.2⟩),_,_,_,hL,j,?_,_,s1 _ _ kp,j,?_,(hPv _ _ _).mpr ⟨_,_,_,setF N j n,rfl,?_,?_,?_,?_,fun f bf e=>?_⟩⟩
  ·exact ltr_ix hj
  ·exact ix3 hj
  ·rw [upd_same,setF_l hj]
  ·rw [upd_ne nDp]
   exact s1 _ _ kD
  ·exact (sH.trans s1).more np
  ·exact nf_set bN bn
  ·rcases rN f bf e with ⟨z,_⟩ | ⟨j',n',o,r⟩
   ·exact absurd z h
   ·obtain⟨rfl,g⟩:=jj o
    cases V.int.inj g
    exact r
 ·intro σ Hx z
  obtain⟨r2,r3,r4,N,rfl,kp,kD,sH,bN,rN⟩:=(hPv _ _ _).mp z
  have rN':∀f,NF f->t=shF f->N=f:=fun f bf e=>by
   have:=rN f bf e
   rw [List.drop_of_length_le (by rw [List.length_map,List.length_map];exact Nat.le_refl _)] at this
   exact this
  dsimp only [a_seq]
  k_typeOf
  refine⟨_,.inl ⟨SqL.of kp,fun l nl=>⟨l,N,rfl,SqT.of upd_same,⟨nb_400 bN.1,nb_400 bN.2.1,nb_400 bN.2.2⟩,fun H1 s1=>?_⟩⟩⟩
  dsimp only
  rw [a_eqS]
  have k1:H1 l=some (T3 N):=s1 _ _ upd_same
  have s2:=(sH.trans (same_upd nl _)).trans s1
  refine⟨_,rfl,ite2 (fun h=>qy N bN (TX.S_inj (of_decide_eq_true h)).symm l _ s2 k1) (fun h=>qn (fun f bf e=>?_) _ s2)⟩
  rw [rN' f bf e] at h
  exact h (decide_eq_true (by rw [e]))
theorem mk_term {K:W.Frag} {mg:Str->Option Value} {T:Tx K mg} {H:Hp} {Q:Addr->Hp->Prop} {E:XK} {A:Addr} {rs:List Addr} {ps:List Prt} (hA:H A=some (.lst (rs.map V.ref))) (hP:Pts H rs ps) (hO:∀p∈ps,PrtOk p) (l1:1<=ps.length) (l6:ps.length<=6)
  (k:∀(x:Addr) (H':Hp),Same H H'->TermAt T H H' x rs ps->Q x H') (x dx:Addr) (hx:H x=none) (hd:H dx=none) (_:dx≠x):
  spTInit T [.ref x,.ref A] (L2.upd (L2.upd H dx (.own x)) x (.ins T.c_Term dx [])) (fun v H2=>v=V.non∧Q x H2) E:=by
 have s1:Same H (L2.upd (L2.upd H dx (.own x)) x (.ins T.c_Term dx [])):=same_new hx hd
 refine⟨x,dx,A,rs,ps,rfl,upd_same,s1 _ _ hA,hP.on s1,hO,l1,l6,fun P1 P2 qs H' s2 n1 n2 ex e1 e2 hq=>⟨rfl,?_⟩⟩
 have s3:Same H H':=fun y o e=>s2 y o (ne_of_none e hx) (s1 y o e)
 exact k x H' s3 ⟨dx,P1,P2,qs,ex,s1.free n1,e1,s1.free n2,e2,hq.from fun y e=>s1.free e⟩
theorem jn_len {w:List Nat} (hw:w≠[]):∀ps:List (List Nat),ps.length<=(TX.jn w ps).length+1∧∀p∈ps,p.length<=(TX.jn w ps).length
 | []=>⟨by simp,fun _ h=>nomatch h⟩
 | [p]=>⟨by simp,fun q h=>by rw [List.mem_singleton.mp h];exact Nat.le_refl _⟩
 | p :: q :: r=>by
  obtain⟨h1,h2⟩:=jn_len hw (q :: r)
  have:=List.length_pos_iff.mpr hw
  rw [jn_cons2,List.length_append,List.length_append]
  refine⟨by rw [List.length_cons];omega,fun x hx=>?_⟩
  rcases List.mem_cons.mp hx with rfl | hx
  ·omega
  ·have:=h2 x hx;omega
theorem split_any {w:List Nat} (hw:w≠[]) (t:List Nat):∃ps:List (List Nat),Txt.split (TX.S t) (TX.S w)=ps.map TX.S∧TX.jn w ps=t∧ps.length<=t.length+1∧∀p∈ps,p.length<=t.length:=by
 obtain⟨ps,hp⟩:∃ps:List (List Nat),Txt.split (TX.S t) (TX.S w)=ps.map TX.S:=⟨(Txt.split (TX.S t) (TX.S w)).map fun x=>x.cps.toList,by rw [List.map_map,show (TX.S ∘ fun x:Str=>x.cps.toList)=id from funext fun x=>TX.S_of x,List.map_id]⟩
 have h:=StrLaws.join_split (TX.S t) (TX.S w)
 rw [hp,TX.jn_S] at h
 have e:=TX.S_inj h
 obtain⟨h1,h2⟩:=jn_len hw ps
 rw [e] at h1 h2
 exact⟨ps,hp,e,h1,h2⟩
theorem cl_rel {K:W.Frag} {a:Addr} {xs:List V} {fv:List (Nat×Str)} {te:TE} {Q:VK} {σ:L2.St} {H1:Hp} {D:Addr} (Rl:Nat->V->Hp->Prop) (nD:H1 D=none) (hA:SqL K H1 a xs) (hl:xs.length<=90000)
  (hk:∀i z H H',(∀b ys,H b=some (.tup ys)->H' b=some (.tup ys))->Rl i z H->Rl i z H')
  (hs:∀(i:Nat) (v:V) (Hx:Hp) (R:VK),xs[i]?=some v->Same H1 Hx->(∀z H',Same Hx H'->Rl i z H'->R z H')->te (bst fv σ (some v)) Hx R)
  (he:∀zs:List V,zs.length=xs.length->∀D' H',(∀i z,zs[i]?=some z->Rl i z H')->Same H1 H'->H1 D'=none->H' D'=some (.lst zs)->Q (.ref D') H'):CLoop (Itl K a) fv te Q σ H1 D:=by
 obtain⟨Pc,hPc⟩:∃Pc:Nat->Hp->Prop,∀j Hx,Pc j Hx↔∃zs:List V,zs.length=j∧Hx D=some (.lst zs)∧Same H1 Hx∧∀i z,zs[i]?=some z->Rl i z Hx:=⟨_,fun _ _=>Iff.rfl⟩
 refine cl_list (xs:=xs) Pc ((hPc _ _).mpr ⟨[],rfl,upd_same,same_upd nD _,fun i z h=>nomatch h⟩) (fun i Hx _ z=>by obtain⟨_,_,_,z,_⟩:=(hPc i Hx).mp z;exact z.seq hA) ?_ ?_
 ·intro j v Hx hv hc
  obtain⟨zs,rfl,k1,k3,k4⟩:=(hPc _ _).mp hc
  have hj:zs.length < xs.length:=(List.getElem?_eq_some_iff.mp hv).1
  refine hs _ v Hx _ hv k3 fun z H2 s2 rz=>?_
  have kt:∀b ys,H2 b=some (.tup ys)->(upd H2 D (.lst (zs++[z]))) b=some (.tup ys):=fun b ys e=>by
   rw [upd_ne (fun q=>by rw [q,s2 _ _ k1] at e;cases e)];exact e
  refine⟨_,s2 _ _ k1,Nat.lt_of_le_of_lt (Nat.le_trans (Nat.le_of_lt hj) hl) (by decide),(hPc _ _).mpr ⟨zs++[z],by simp,upd_same,(k3.trans s2).more nD,fun i y hy=>?_⟩⟩
  rw [List.getElem?_append] at hy
  split at hy
  ·exact hk _ _ _ _ kt (hk _ _ _ _ (fun b ys e=>s2 _ _ e) (k4 i y hy))
  ·rename_i hi
   have e0:i - zs.length=0:=by
    have:=(List.getElem?_eq_some_iff.mp hy).1
    simp at this;omega
   rw [e0] at hy
   cases hy
   have:i=zs.length:=by omega
   subst this
   exact hk _ _ _ _ kt rz
 intro Hx hc
 obtain⟨zs,lz,k1,k3,k4⟩:=(hPc _ _).mp hc
 exact he zs lz D Hx k4 k3 nD k1
def spRdP (ok:Prt->Prop) (tx:Prt->List Nat):Sp:=fun vs H Q _=>∃t:List Nat,vs=[.str (TX.S t)]∧t.length<=3000∧(∀p:Prt,ok p->t=tx p->∀r H',Same H H'->PtAt H' r p->Q (.ref r) H')∧((∀p:Prt,ok p->t≠tx p)->newH H Q .non)
def chT:Prt->List Nat
 | .cho f g=>TX.jn [44,32] [shF f,shF g]
 | _=>[]
def chN:Prt->Prop
 | .cho f g=>NF f∧NF g
 | _=>False
theorem l_cs:Str.ofString ", " = TX.S [44,32]:=rfl
theorem sh_44 {f:F3} {c:Nat} (h:c∈shF f):c=43∨c=45∨(48<=c∧c<=57)∨c=110∨c=107:=by
 have hc:∀{n:Int} {i:Nat},c∈cntT n (Ltr i)->c=43∨c=45∨(48<=c∧c<=57)∨c=110∨c=107:=fun {n i} h=>by
  have lm:c∈Ltr i->c=43∨c=45∨(48<=c∧c<=57)∨c=110∨c=107:=fun h=>by have:=ltr_mem h;omega
  unfold cntT at h
  split at h
  ·rcases List.mem_append.mp h with h | h
   ·have:=TX.sh_mem h;omega
   ·exact lm h
  ·split at h
   ·exact lm h
   ·rcases List.mem_cons.mp h with h | h
    ·omega
    ·exact lm h
 have hs:∀{acc:List Nat} {n:Int} {i:Nat},(c∈acc->c=43∨c=45∨(48<=c∧c<=57)∨c=110∨c=107)->c∈stepT acc n (Ltr i)->c=43∨c=45∨(48<=c∧c<=57)∨c=110∨c=107:=fun {acc n i} ha h=>by
  unfold stepT at h
  split at h
  ·exact ha h
  ·rcases List.mem_append.mp h with h | h
   ·exact ha h
   ·rcases List.mem_append.mp h with h | h
    ·split at h
     ·simp at h;omega
     ·simp at h
    ·exact hc h
 unfold shF at h
 split at h
 ·simp at h;omega
 ·exact hs (i:=2) (hs (i:=1) (hs (i:=0) (acc:=[]) (fun h=>nomatch h))) h
def frV (ps:List (List Nat)) (i:Nat) (z:V) (H:Hp):Prop:=(z=.non∧∀f,NF f->ps[i]?≠some (shF f))∨∃r f,z=.ref r∧H r=some (T3 f)∧NF f∧ps[i]?=some (shF f)
theorem ok_read_choose {P:Program} {w:World} {K:W.Frag} {mg:Str->Option Value} {base:Heap} (T:Tx K mg):FnOk P w K mg base CX0 4 T.a_read_choose T.fd_read_choose ["text"] (spRdP chN chT):=by
 refine T.F_read_choose.ok sc_read_choose (fun vs H Q E h=>?_) (fun cdv A outer s H vs Q E hr h=>?_)
 ·obtain⟨t,rfl,_⟩:=h
  rfl
 obtain⟨t,rfl,ll,qy,qn⟩:=h
 refine⟨_,((pss_cons (ps_setC (i:=1) rfl (blkok rfl sub_nil fv_nil) (pi_list (pe_bm PySem.F.plainAttrs_str PySem.F.slot_str_split PySem.F.type_str_split mt_split (pv 0) (pa_cons (pe_glob (v:=.str ", ") rfl T.g_BETWEEN_FORMS.2 ⟨_,rfl⟩) pa_nil))) (fun _ _ _ _=>(pe_call (FnOk.mono (ok_read_form T) (by decide)) hr rfl T.m_read_form T.F_read_form.kp T.b_read_form .nil pass0 (pa_cons (pv 0) pa_nil))) sc_read_choose.nd rfl rfl)
  (pss_cons (ps_if (PW.pt (pw_or (pt_cmpR op_ne (pe_callB call_len_seq rfl T.z_len bt_len (pa_cons (pv 1) pa_nil)) pe_int (nomark _)) (pw_or1 (pt_cmpR (op_noneIn hr.units) pe_non (pv 1) (by with_unfolding_all rfl))))) (pss_one (ps_ret pe_non)) pss_nil)
  (pss_one (ps_ret (pe_tup (pa_cons pe_str (pa_cons (pe_ix ix_list (pv 1) pe_int (fun _ _=>rfl)) (pa_cons (pe_ix ix_list (pv 1) pe_int (fun _ _=>rfl)) pa_nil))))))))),?_⟩
 dsimp only [a_seq]
 k_typeOf
 obtain⟨ps,hp,hj,l1,l2⟩:=split_any (w:=[44,32]) (by simp) t
 rw [l_cs,hp]
 refine⟨by decide,by rw [TX.S_len];omega,by rw [List.length_map];omega,fun A0 nA=>⟨A0,rfl,⟨_,SqL.of upd_same⟩,fun D nD=>?_⟩⟩
 have s0:=same_upd nA (.lst ((ps.map TX.S).map V.str))
 have due:∀p,chN p->t=chT p->∃f g,p=.cho f g∧NF f∧NF g∧ps=[shF f,shF g]:=fun p hp' e=>by
  match p,hp' with
  | .cho f g,hfg=>
   refine⟨f,g,rfl,hfg.1,hfg.2,?_⟩
   have no:∀q∈[shF f,shF g],44∉q:=fun q hq z=>by
    rcases List.mem_cons.mp hq with rfl | hq
    ·have:=sh_44 z;omega
    ·rw [List.mem_singleton.mp hq] at z
     have:=sh_44 z;omega
   have hs:=TX.split_jn (w:=[44,32]) (c:=44) (d:=0) rfl (fun e he=>by
    match e,he with
    | 0,_=>rfl
    | 1,he=>simp at he) (by decide) (by simp) no
   rw [show TX.jn [44,32] [shF f,shF g]=t from e.symm,hp] at hs
   exact List.map_inj_right (fun _ _=>TX.S_inj) |>.mp hs
 refine cl_rel (frV ps) (xs:=(ps.map TX.S).map V.str) nD (SqL.of upd_same) (by rw [List.length_map,List.length_map];omega) ?_ ?_ ?_
 ·rintro i z H1 H2 k (h | ⟨r,f,e,h1,h2⟩)
  ·exact .inl h
  ·exact .inr ⟨r,f,e,k _ _ h1,h2⟩
 ·intro i v Hx R hv sx hR
  rw [List.getElem?_map,List.getElem?_map] at hv
  obtain⟨y,hy,rfl⟩:=Option.map_eq_some_iff.mp hv
  obtain⟨pc,hpc,rfl⟩:=Option.map_eq_some_iff.mp hy
  have lp:=l2 pc (List.mem_of_getElem? hpc)
  (iterate 3 (k_units;(try simp only [bst]));k_units)
  refine⟨pc,rfl,by omega,fun f bf e r H' s' k=>hR _ H' s' (.inr ⟨r,f,rfl,k,bf,by rw [hpc,e]⟩),fun h H' s'=>hR _ H' s' (.inl ⟨rfl,fun f bf e=>?_⟩)⟩
  rw [hpc] at e
  exact h f bf (Option.some.inj e)
 intro zs lz D' H' rl s' nD' kD'
 rw [List.length_map,List.length_map] at lz
 have sH:Same H H':=s0.trans s'
 dsimp only [a_seq]
 k_typeOf
 refine⟨_,.inl (SqL.of kD'),?_⟩
 refine ite2 (fun h=>qn (fun p hp' e=>?_) _ sH) (fun h=>⟨_,SqL.of kD',fun z hz=>?_,ite2 (fun hn=>qn (fun p hp' e=>?_) _ sH) (fun hn=>?_)⟩)
 ·obtain⟨f,g,_,_,_,e2⟩:=due p hp' e
  rw [e2] at lz
  exact h (by rw [lz];rfl)
 ·obtain⟨i,hi⟩:=List.getElem?_of_mem hz
  rcases rl i z hi with ⟨e,_⟩ | ⟨r,f,e,h1,_⟩
  ·exact .inl e
  ·exact .inr ⟨r,e,_,SqT.of h1⟩
 ·obtain⟨f,g,_,bf,bg,e2⟩:=due p hp' e
  obtain⟨z,hz,nz⟩:=List.any_eq_true.mp hn
  obtain⟨i,hi⟩:=List.getElem?_of_mem hz
  have i2:i < 2:=by
   have:=(List.getElem?_eq_some_iff.mp hi).1
   rw [lz,e2] at this
   exact this
  rcases rl i z hi with ⟨_,g1⟩ | ⟨r,f,e,_⟩
  ·rw [e2] at g1
   match i,i2,g1 with
   | 0,_,g1=>exact g1 f bf rfl
   | 1,_,g1=>exact g1 g bg rfl
  ·rw [e] at nz;cases nz
 have l22:zs.length=2:=by omega
 match zs,l22,lz,rl,kD',hn with
 | [z0,z1],_,lz,rl,kD',hn=>
  rcases rl 0 z0 rfl with ⟨e,_⟩ | ⟨r0,f,rfl,k0,bf,e0⟩
  ·rw [e] at hn;exact absurd rfl hn
  rcases rl 1 z1 rfl with ⟨e,_⟩ | ⟨r1,g,rfl,k1,bg,e1⟩
  ·rw [e] at hn;exact absurd rfl hn
  refine⟨_,SqL.of kD',_,rfl,_,SqL.of kD',_,rfl,by decide,fun p np=>?_⟩
  have s9:=same_upd np (HO.tup [V.str (Str.ofString "choose"),.ref r0,.ref r1])
  refine qy (.cho f g) ⟨bf,bg⟩ ?_ p _ (sH.trans s9) ⟨r0,r1,upd_same,s9 _ _ k0,s9 _ _ k1⟩
  match ps,lz,e0,e1,hj with
  | [p0,p1],_,e0,e1,hj=>
   cases Option.some.inj e0
   cases Option.some.inj e1
   exact hj.symm
def prN:Prt->Prop
 | .cho f g=>NF f∧NF g
 | .wei f=>NF f
 | .pow f=>Frc f∧NB f.1∧NB f.2
 | .gro f=>Frc f∧NB f.1∧NB f.2
theorem ite_two {A B:Prop} [Decidable A] [Decidable B] {X R:Prop} (h1:A->B->X) (h2:¬(A∧B)->R):if A then (if B then X else R) else R:=
 ite2 (fun a=>ite2 (fun b=>h1 a b) (fun b=>h2 fun z=>b z.2)) (fun a=>h2 fun z=>a z.1)
theorem wrap {a t:List Nat} {c:Nat} {r:List Nat} (ha:a.isPrefixOf t=true) (hb:(c :: r).isSuffixOf t=true) (hc:c∉a):∃m,t=a++(m++c :: r):=by
 obtain⟨x,hx⟩:=List.isPrefixOf_iff_prefix.mp ha
 obtain⟨y,hy⟩:=List.isSuffixOf_iff_suffix.mp hb
 rcases List.append_eq_append_iff.mp (hx.trans hy.symm) with ⟨a',e1,e2⟩ | ⟨c',e1,e2⟩
 ·exact⟨a',by rw [← e2,hx]⟩
 ·cases c' with
  | nil=>exact⟨[],by rw [← hx,← List.nil_append x,← e2];rfl⟩
  | cons d c'=>
   cases e2
   exact absurd (by rw [e1];simp) hc
theorem wrap_pre (a x:List Nat):a.isPrefixOf (a++x)=true:=List.isPrefixOf_iff_prefix.mpr ⟨x,rfl⟩
theorem wrap_suf (a m b:List Nat):b.isSuffixOf (a++(m++b))=true:=List.isSuffixOf_iff_suffix.mpr ⟨a++m,by rw [List.append_assoc]⟩
theorem wrap_sl (a m:List Nat) (c:Nat) (r:List Nat):Txt.slice (TX.S (a++(m++c :: r))) (some (a.length:Int)) (some (-((c :: r).length:Int)))=TX.S m:=by
 rw [TX.slice_S]
 have e1:TX.sx (a++(m++c :: r)).length 0 (some (a.length:Int))=a.length:=by
  show (if (a.length:Int) < 0 then ((a.length:Int)+((a++(m++c :: r)).length:Int)).toNat else min (a.length:Int).toNat (a++(m++c :: r)).length)=_
  rw [if_neg (by omega)]
  simp
 have e2:TX.sx (a++(m++c :: r)).length (a++(m++c :: r)).length (some (-((c :: r).length:Int)))=a.length+m.length:=by
  show (if (-((c :: r).length:Int)) < 0 then ((-((c :: r).length:Int))+((a++(m++c :: r)).length:Int)).toNat else _)=_
  rw [if_pos (by simp)]
  simp;omega
 rw [e1,e2,List.drop_left,Nat.add_sub_cancel_left,List.take_left]
theorem prT_c (f g:F3):prT (.cho f g)=[67,40]++(TX.jn [44,32] [shF f,shF g]++[41]):=by simp [prT,TX.jn]
theorem prT_w (f:F3):prT (.wei f)=[40]++(shF f++[41]):=rfl
theorem prT_p (f:Int×Int):prT (.pow f)=[91]++(shR f++[93,94,107]):=rfl
theorem prT_g (f:Int×Int):prT (.gro f)=[91]++(shR f++[93,94,110]):=rfl
theorem wrap_inj {a m m' b:List Nat} (h:a++(m++b)=a++(m'++b)):m=m':=List.append_cancel_right (List.append_cancel_left h)
def ptV (t:List Nat) (v:V) (H:Hp):Prop:=((v=.non∨∃r nm,v=.ref r∧H r=some (.tup [nm,.non]))∧∀p,prN p->t≠prT p)∨∃r p nm a,v=.ref r∧PtAt H r p∧H r=some (.tup [nm,.ref a])∧prN p∧t=prT p
theorem l_upk:Str.ofString "]^k" = TX.S [93,94,107]:=rfl
theorem l_upn:Str.ofString "]^n" = TX.S [93,94,110]:=rfl
theorem ok_read_part {P:Program} {w:World} {K:W.Frag} {mg:Str->Option Value} {base:Heap} (T:Tx K mg):FnOk P w K mg base (CXE P w) 5 T.a_read_part T.fd_read_part ["text"] (spRdP prN prT):=by
 refine T.F_read_part.okE sc_read_part (fun vs H Q E h=>?_) (fun cdv A outer s H vs Q E hr h=>?_)
 ·obtain⟨t,rfl,_⟩:=h
  rfl
 obtain⟨t,rfl,ll,qy,qn⟩:=h
 refine⟨_,((pss_cons (PS.nox (ps_if (PW.pt (pw_and (pt_val (pe_bm PySem.F.plainAttrs_str PySem.F.slot_str_startswith PySem.F.type_str_startswith mt_starts (pv 0) (pa_cons pe_str pa_nil))) (pw_and1 (pt_val (pe_bm PySem.F.plainAttrs_str PySem.F.slot_str_endswith PySem.F.type_str_endswith mt_ends (pv 0) (pa_cons pe_str pa_nil)))))) (pss_one (ps_ret (pe_call (FnOk.mono (ok_read_choose T) (by decide)) hr rfl T.m_read_choose T.F_read_choose.kp T.b_read_choose .nil pass0 (pa_cons (pe_slice sl_str (pv 0) (po_some pe_int) (po_some (pe_un un_neg pe_int))) pa_nil)))) pss_nil))
  (pss_cons (PS.nox (ps_set (i:=1) sc_read_part.nd rfl (Or.inl rfl) pe_non))
  (pss_mid (ps_if (PT.nox (PW.pt (pw_and (pt_val (pe_bm PySem.F.plainAttrs_str PySem.F.slot_str_startswith PySem.F.type_str_startswith mt_starts (pv 0) (pa_cons pe_str pa_nil))) (pw_and1 (pt_val (pe_bm PySem.F.plainAttrs_str PySem.F.slot_str_endswith PySem.F.type_str_endswith mt_ends (pv 0) (pa_cons pe_str pa_nil))))))) (pss_one (PS.nox (ps_set (i:=1) sc_read_part.nd rfl (Or.inl rfl) (pe_tup (pa_cons pe_str (pa_cons (pe_call (FnOk.mono (ok_read_form T) (by decide)) hr rfl T.m_read_form T.F_read_form.kp T.b_read_form .nil pass0 (pa_cons (pe_slice sl_str (pv 0) (po_some pe_int) (po_some (pe_un un_neg pe_int))) pa_nil)) pa_nil)))))) (pss_one (ps_if (PT.nox (PW.pt (pw_and (pt_val (pe_bm PySem.F.plainAttrs_str PySem.F.slot_str_startswith PySem.F.type_str_startswith mt_starts (pv 0) (pa_cons pe_str pa_nil))) (pw_and1 (pt_val (pe_bm PySem.F.plainAttrs_str PySem.F.slot_str_endswith PySem.F.type_str_endswith mt_ends (pv 0) (pa_cons pe_str pa_nil))))))) (pss_one (ps_set (i:=1) sc_read_part.nd rfl (Or.inl rfl) (pe_tup (pa_cons pe_str (pa_cons (pe_call (FnOk.mono (ok_read_ratio T) (by decide)) hr rfl T.m_read_ratio T.F_read_ratio.kp T.b_read_ratio .nil passE (pa_cons (pe_slice sl_str (pv 0) (po_some pe_int) (po_some (pe_un un_neg pe_int))) pa_nil)) pa_nil))))) (pss_one (ps_if (PT.nox (PW.pt (pw_and (pt_val (pe_bm PySem.F.plainAttrs_str PySem.F.slot_str_startswith PySem.F.type_str_startswith mt_starts (pv 0) (pa_cons pe_str pa_nil))) (pw_and1 (pt_val (pe_bm PySem.F.plainAttrs_str PySem.F.slot_str_endswith PySem.F.type_str_endswith mt_ends (pv 0) (pa_cons pe_str pa_nil))))))) (pss_one (ps_set (i:=1) sc_read_part.nd rfl (Or.inl rfl) (pe_tup (pa_cons pe_str (pa_cons (pe_call (FnOk.mono (ok_read_ratio T) (by decide)) hr rfl T.m_read_ratio T.F_read_ratio.kp T.b_read_ratio .nil passE (pa_cons (pe_slice sl_str (pv 0) (po_some pe_int) (po_some (pe_un un_neg pe_int))) pa_nil)) pa_nil))))) pss_nil)))))
  (pss_one (PS.nox (ps_ret (pe_ifExp (PW.pt (pw_and (pt_cmpR op_notN (pv 1) pe_non (nomark _)) (pw_and1 (pt_cmpR op_notN (pe_ix ix_tup (pv 1) pe_int (fun _ _=>rfl)) pe_non (nomark _))))) (pv 1) pe_non)))))))),?_⟩
 dsimp only [a_seq]
 k_typeOf
 have lS:(TX.S t).length<=100000:=by rw [TX.S_len];omega
 rw [l_C,l_cl,TX.starts_S,TX.ends_S]
 refine ite_two (fun hA hB=>⟨lS,?_⟩) (fun nC=>?_)
 ·obtain⟨m,rfl⟩:=wrap hA hB (by decide)
  have lm:m.length<=3000:=by simp at ll;omega
  refine⟨m,by rw [← wrap_sl [67,40] m 41 []];rfl,lm,fun p hp e r H' s' h=>?_,fun h=>qn fun p hp e=>?_⟩
  ·match p,hp with
   | .cho f g,hp=>exact qy (.cho f g) hp (by rw [prT_c,e];rfl) r H' s' h
  ·match p,hp with
   | .cho f g,hp=>
    rw [prT_c] at e
    exact h (.cho f g) hp (wrap_inj e)
   | .wei f,hp=>exact absurd (List.cons.inj e).1 (by decide)
   | .pow f,hp=>exact absurd (List.cons.inj e).1 (by decide)
   | .gro f,hp=>exact absurd (List.cons.inj e).1 (by decide)
 have nc:∀f g,t≠prT (.cho f g):=fun f g e=>nC (by rw [e,prT_c];exact⟨wrap_pre _ _,wrap_suf _ _ _⟩)
 obtain⟨M,hM⟩:∃M:L2.St->Hp->Prop,∀σ Hx,M σ Hx↔∃v,σ=[some (.str (TX.S t)),some v]∧Same H Hx∧ptV t v Hx:=⟨_,fun _ _=>Iff.rfl⟩
 dsimp only [a_seq]
 k_typeOf
 refine mid_of M ?_ ?_
 ·skip
  dsimp only [a_seq]
  k_typeOf
  rw [l_op,l_sq,l_upk,l_upn,TX.starts_S,TX.ends_S,TX.starts_S,TX.ends_S,TX.ends_S]
  refine ite_two (fun hA hB=>⟨lS,?_⟩) (fun nW=>ite_two (fun hA hB=>⟨lS,?_⟩) (fun nP=>ite_two (fun hA hB=>⟨lS,?_⟩) (fun nG=>?_)))
  ·obtain⟨m,rfl⟩:=wrap hA hB (by decide)
   have lm:m.length<=3000:=by simp at ll;omega
   refine⟨m,by rw [← wrap_sl [40] m 41 []];rfl,lm,fun f bf e r H1 s1 k=>⟨by decide,fun p np=>(hM _ _).mpr ⟨_,rfl,s1.trans (same_upd np _),.inr ⟨p,.wei f,_,r,rfl,⟨r,upd_same,(same_upd np _) _ _ k⟩,upd_same,bf,by rw [prT_w,e]⟩⟩⟩,fun h H1 s1=>⟨by decide,fun p np=>(hM _ _).mpr ⟨_,rfl,s1.trans (same_upd np _),.inl ⟨.inr ⟨p,_,rfl,upd_same⟩,fun q hq e=>?_⟩⟩⟩⟩
   match q,hq with
   | .cho f g,_=>exact nc f g e
   | .wei f,hq=>exact h f hq (wrap_inj (e.trans (prT_w f)))
   | .pow f,_=>exact absurd (List.cons.inj e).1 (by decide)
   | .gro f,_=>exact absurd (List.cons.inj e).1 (by decide)
  ·obtain⟨m,rfl⟩:=wrap hA hB (by decide)
   have lm:m.length<=9000:=by simp at ll;omega
   refine⟨m,by rw [← wrap_sl [91] m 93 [94,107]];rfl,lm,fun f bf b1 b2 e r H1 s1 k=>⟨by decide,fun p np=>(hM _ _).mpr ⟨_,rfl,s1.trans (same_upd np _),.inr ⟨p,.pow f,_,r,rfl,⟨r,upd_same,(same_upd np _) _ _ k⟩,upd_same,⟨bf,b1,b2⟩,by rw [prT_p,e]⟩⟩⟩,fun h H1 s1=>⟨by decide,fun p np=>(hM _ _).mpr ⟨_,rfl,s1.trans (same_upd np _),.inl ⟨.inr ⟨p,_,rfl,upd_same⟩,fun q hq e=>?_⟩⟩⟩⟩
   match q,hq with
   | .cho f g,_=>exact nc f g e
   | .wei f,hq=>exact absurd (List.cons.inj e).1 (by decide)
   | .pow f,hq=>exact h f hq.1 hq.2.1 hq.2.2 (wrap_inj (e.trans (prT_p f)))
   | .gro f,_=>exact absurd (List.append_inj_right' (List.append_cancel_left (e.trans (prT_g f))) rfl) (by decide)
  ·obtain⟨m,rfl⟩:=wrap hA hB (by decide)
   have lm:m.length<=9000:=by simp at ll;omega
   refine⟨m,by rw [← wrap_sl [91] m 93 [94,110]];rfl,lm,fun f bf b1 b2 e r H1 s1 k=>⟨by decide,fun p np=>(hM _ _).mpr ⟨_,rfl,s1.trans (same_upd np _),.inr ⟨p,.gro f,_,r,rfl,⟨r,upd_same,(same_upd np _) _ _ k⟩,upd_same,⟨bf,b1,b2⟩,by rw [prT_g,e]⟩⟩⟩,fun h H1 s1=>⟨by decide,fun p np=>(hM _ _).mpr ⟨_,rfl,s1.trans (same_upd np _),.inl ⟨.inr ⟨p,_,rfl,upd_same⟩,fun q hq e=>?_⟩⟩⟩⟩
   match q,hq with
   | .cho f g,_=>exact nc f g e
   | .wei f,hq=>exact absurd (List.cons.inj e).1 (by decide)
   | .gro f,hq=>exact h f hq.1 hq.2.1 hq.2.2 (wrap_inj (e.trans (prT_g f)))
   | .pow f,_=>exact absurd (List.append_inj_right' (List.append_cancel_left (e.trans (prT_p f))) rfl) (by decide)
  ·refine (hM _ _).mpr ⟨_,rfl,Same.refl _,.inl ⟨.inl rfl,fun q hq e=>?_⟩⟩
   match q,hq with
   | .cho f g,_=>exact nc f g e
   | .wei f,_=>exact nW (by rw [e,prT_w];exact⟨wrap_pre _ _,wrap_suf _ _ _⟩)
   | .pow f,_=>exact nP (by rw [e,prT_p];exact⟨wrap_pre _ _,wrap_suf _ _ _⟩)
   | .gro f,_=>exact nG (by rw [e,prT_g];exact⟨wrap_pre _ _,wrap_suf _ _ _⟩)
 intro σ Hx hm
 obtain⟨v,rfl,sx,hv⟩:=(hM _ _).mp hm
 clear hm hM M
 k_units
 rcases hv with ⟨rfl | ⟨r,nm,rfl,hr1⟩,hn⟩ | ⟨r,p,nm,a,rfl,hp,hr1,np,e⟩
 ·rw [if_neg (by simp)]
  exact qn hn _ sx
 ·rw [if_pos (by simp)]
  refine⟨_,rfl,_,SqT.of hr1,_,rfl,?_⟩
  rw [if_neg (by simp)]
  exact qn hn _ sx
 ·rw [if_pos (by simp)]
  refine⟨_,rfl,_,SqT.of hr1,_,rfl,?_⟩
  rw [if_pos (by simp)]
  exact qy p np e r _ sx hp
def spRdT {K:W.Frag} {mg:Str->Option Value} (T:Tx K mg):Sp:=fun vs H Q E=>∃t:List Nat,vs=[.str (TX.S t)]∧t.length<=3000∧
 ((∃ps:List Prt,1<=ps.length∧ps.length<=6∧(∀p∈ps,prN p∧PrtOk p)∧t=trT ps∧∀(x:Addr) (H0 H':Hp) (rs:List Addr),Same H H0->Same H H'->TermAt T H0 H' x rs ps->Pts H' rs ps->Q (.ref x) H')∨
  ((∀ps:List Prt,(∀p∈ps,prN p)->t≠trT ps)∧∀H',Same H H'->E (.ref T.c_NoTerm) none H'))
theorem okP_one {p:List Nat} {i i':Nat} {n n':Int} (h:okP p i n) (h':okP p i' n'):i=i'∧n=n':=by
 have pn:p≠[]:=by rw [h.2.2.2];exact cnt_nn i h.2.2.1
 obtain⟨q,c,rfl⟩:∃q c,p=q++[c]:=⟨_,_,(List.dropLast_concat_getLast pn).symm⟩
 have e:i=i':=by
  rcases cnt_last h with z | z | z <;> rcases cnt_last h' with y | y | y <;> omega
 subst e
 refine⟨rfl,?_⟩
 obtain⟨_,b,o,e⟩:=h
 obtain⟨hi,b',o',e'⟩:=h'
 have ee:cntT n (Ltr i)=cntT n' (Ltr i):=e.symm.trans e'
 by_cases l0:Ltr i=[]
 ·rw [l0] at ee
  unfold cntT at ee
  rw [if_pos (.inl rfl),if_pos (.inl rfl),List.append_nil,List.append_nil] at ee
  exact sh_inj b ee
 ·have i2:i≠2:=fun z=>l0 (by rw [z];rfl)
  obtain⟨t,ht⟩:∃t,t++Ltr i=cntT n (Ltr i):=by
   unfold cntT;split
   ·exact⟨_,rfl⟩
   ·split
    ·exact⟨[],rfl⟩
    ·exact⟨[45],rfl⟩
  have c1:=cnt_inv l0 (o.resolve_right i2) ht
  have c2:=cnt_inv l0 (o'.resolve_right i2) (ht.trans ee)
  rcases c1 with ⟨a1,a2⟩ | ⟨a1,a2⟩ | ⟨a1,a2,a3⟩ <;> rcases c2 with ⟨d1,d2⟩ | ⟨d1,d2⟩ | ⟨d1,d2,d3⟩
  ·omega
  ·rw [a1] at d1;cases d1
  ·exact absurd a1 d1
  ·rw [a1] at d1;cases d1
  ·omega
  ·exact absurd a1 d2
  ·exact absurd d1 a1
  ·exact absurd d1 a2
  ·exact sh_inj b (a3.symm.trans d3)
theorem run_det {f g:F3}:∀{ps:List (List Nat)} {N:F3},Run f N ps->Run g N ps->f=g
 | [],_,h,h'=>h.symm.trans h'
 | p :: r,N,h,h'=>by
  rcases h with ⟨e,h⟩ | ⟨i,n,o,h⟩ <;> rcases h' with ⟨e',h'⟩ | ⟨i',n',o',h'⟩
  ·exact run_det h h'
  ·exact absurd (o'.2.2.2.symm.trans e) (cnt_nn i' o'.2.2.1)
  ·exact absurd (o.2.2.2.symm.trans e') (cnt_nn i o.2.2.1)
  ·obtain⟨rfl,rfl⟩:=okP_one o o'
   exact run_det h h'
theorem shF_inj {f g:F3} (hf:NF f) (hg:NF g) (e:shF f=shF g):f=g:=by
 have h:=run_form hf
 rw [e] at h
 exact run_det h (run_form hg)
theorem shR_inj {f g:Int×Int} (b1:NB f.1) (b2:NB f.2) (e:shR f=shR g):f=g:=by
 by_cases z:f.2=1
 ·have e1:shR f=TX.shI f.1:=by unfold shR;rw [if_pos z]
  have h:=shR_b (t:=shR f) (by rw [e1];exact nf47 _) e
  rw [e1] at h
  exact Prod.ext (sh_inj b1 h.1) (by rw [z,h.2])
 ·have e1:shR f=TX.shI f.1++47 :: TX.shI f.2:=by unfold shR;rw [if_neg z]
  obtain⟨h1,h2,_⟩:=shR_a (nf47 _) (e1.symm.trans e)
  exact Prod.ext (sh_inj b1 h1) (sh_inj b2 h2)
theorem prT_inj {p q:Prt} (hp:prN p) (hq:prN q) (e:prT p=prT q):p=q:=by
 match p,q,hp,hq,e with
 | .cho f g,.cho f' g',hp,hq,e=>
  have e':=wrap_inj ((prT_c f g).symm.trans (e.trans (prT_c f' g')))
  have e2:shF f++44 :: (32 :: shF g)=shF f'++44 :: (32 :: shF g'):=by simpa [TX.jn] using e'
  obtain⟨h1,h2⟩:=cut1 (fun z=>by have:=sh_44 z;omega) (fun z=>by have:=sh_44 z;omega) e2
  rw [shF_inj hp.1 hq.1 h1,shF_inj hp.2 hq.2 (List.cons.inj h2).2]
 | .wei f,.wei f',hp,hq,e=>rw [shF_inj hp hq (wrap_inj ((prT_w f).symm.trans (e.trans (prT_w f'))))]
 | .pow f,.pow f',hp,hq,e=>rw [shR_inj hp.2.1 hp.2.2 (wrap_inj ((prT_p f).symm.trans (e.trans (prT_p f'))))]
 | .gro f,.gro f',hp,hq,e=>rw [shR_inj hp.2.1 hp.2.2 (wrap_inj ((prT_g f).symm.trans (e.trans (prT_g f'))))]
 | .cho _ _,.wei _,_,_,e=>exact absurd (List.cons.inj e).1 (by decide)
 | .cho _ _,.pow _,_,_,e=>exact absurd (List.cons.inj e).1 (by decide)
 | .cho _ _,.gro _,_,_,e=>exact absurd (List.cons.inj e).1 (by decide)
 | .wei _,.cho _ _,_,_,e=>exact absurd (List.cons.inj e).1 (by decide)
 | .wei _,.pow _,_,_,e=>exact absurd (List.cons.inj e).1 (by decide)
 | .wei _,.gro _,_,_,e=>exact absurd (List.cons.inj e).1 (by decide)
 | .pow _,.cho _ _,_,_,e=>exact absurd (List.cons.inj e).1 (by decide)
 | .pow _,.wei _,_,_,e=>exact absurd (List.cons.inj e).1 (by decide)
 | .pow f,.gro f',_,_,e=>exact absurd (List.append_inj_right' (List.append_cancel_left ((prT_p f).symm.trans (e.trans (prT_g f')))) rfl) (by decide)
 | .gro _,.cho _ _,_,_,e=>exact absurd (List.cons.inj e).1 (by decide)
 | .gro _,.wei _,_,_,e=>exact absurd (List.cons.inj e).1 (by decide)
 | .gro f,.pow f',_,_,e=>exact absurd (List.append_inj_right' (List.append_cancel_left ((prT_g f).symm.trans (e.trans (prT_p f')))) rfl) (by decide)
theorem prT_42 (p:Prt):42∉prT p:=by
 have hR:∀{f:Int×Int},42∉shR f:=fun {f} z=>by
  unfold shR at z
  split at z
  ·have:=TX.sh_mem z;omega
  ·rcases List.mem_append.mp z with z | z
   ·have:=TX.sh_mem z;omega
   ·rcases List.mem_cons.mp z with z | z
    ·omega
    ·have:=TX.sh_mem z;omega
 have hF:∀{f:F3},42∉shF f:=fun z=>by have:=sh_44 z;omega
 cases p <;> simp [prT,hR,hF]
def prV (pcs:List (List Nat)) (i:Nat) (z:V) (H:Hp):Prop:=(z=.non∧∀p,prN p->pcs[i]?≠some (prT p))∨∃r p,z=.ref r∧PtAt H r p∧prN p∧pcs[i]?=some (prT p)
theorem PtAt.seq {K:W.Frag} {H:Hp} {r:Addr} {p:Prt} (h:PtAt H r p):∃ys,SqT K H r ys:=by
 match p,h with
 | .cho _ _,⟨_,_,h,_⟩=>exact⟨_,SqT.of h⟩
 | .wei _,⟨_,h,_⟩=>exact⟨_,SqT.of h⟩
 | .pow _,⟨_,h,_⟩=>exact⟨_,SqT.of h⟩
 | .gro _,⟨_,h,_⟩=>exact⟨_,SqT.of h⟩
theorem ok_read_term {P:Program} {w:World} {K:W.Frag} {mg:Str->Option Value} {base:Heap} (T:Tx K mg):FnOk P w K mg base (CXE P w) 7 T.a_read_term T.fd_read_term ["text"] (spRdT T):=by
 refine T.F_read_term.okE sc_read_term (fun vs H Q E h=>?_) (fun cdv A outer s H vs Q E hr h=>?_)
 ·obtain⟨t,rfl,_⟩:=h
  rfl
 obtain⟨t,rfl,ll,q⟩:=h
 refine⟨_,((pss_cons (ps_setC (i:=1) rfl (blkok rfl sub_nil fv_nil) (pi_list (pe_bm PySem.F.plainAttrs_str PySem.F.slot_str_split PySem.F.type_str_split mt_split (pv 0) (pa_cons (pe_glob (v:=.str " * ") rfl T.g_BETWEEN_PARTS.2 ⟨_,rfl⟩) pa_nil))) (fun _ _ _ _=>(pe_call (FnOk.mono (ok_read_part T) (by decide)) hr rfl T.m_read_part T.F_read_part.kp T.b_read_part .nil passF (pa_cons (pv 0) pa_nil))) sc_read_term.nd rfl rfl)
  (pss_cons (ps_if (PT.nox (pt_cmpR (op_noneIn hr.units) pe_non (pv 1) (by with_unfolding_all rfl))) (pss_one (ps_raise rfl throwE rfl T.mc_NoTerm T.xc_NoTerm (pa_cons pe_str pa_nil))) pss_nil)
  (pss_one (PS.nox (ps_ret (pe_make T.mk_Term (FnOk.mono (ok_Term___init__ T) (by decide)) hr rfl T.mc_Term T.b_Term___init__ .nil passF (pa_cons (pv 1) pa_nil)))))))),?_⟩
 dsimp only [a_seq]
 k_typeOf
 obtain⟨pcs,hp,hj,l1,l2⟩:=split_any (w:=[32,42,32]) (by simp) t
 rw [l_st,hp]
 refine⟨by decide,by rw [TX.S_len];omega,by rw [List.length_map];omega,fun A0 nA=>⟨A0,rfl,⟨_,SqL.of upd_same⟩,fun D nD=>?_⟩⟩
 have s0:=same_upd nA (.lst ((pcs.map TX.S).map V.str))
 have due:∀ps:List Prt,ps≠[]->t=trT ps->pcs=ps.map prT:=fun ps h0 e=>by
  have hs:=TX.split_jn (w:=[32,42,32]) (c:=42) (d:=1) rfl (fun e he=>by
   match e,he with
   | 0,he=>simp at he
   | 1,_=>rfl
   | 2,he=>simp at he) (by decide) (ps:=ps.map prT) (by simpa using h0) (fun q hq=>by
    obtain⟨p,_,rfl⟩:=List.mem_map.mp hq
    exact prT_42 p)
  rw [show TX.jn [32,42,32] (ps.map prT)=t from e.symm,hp] at hs
  exact List.map_inj_right (fun _ _=>TX.S_inj) |>.mp hs
 refine cl_rel (prV pcs) (xs:=(pcs.map TX.S).map V.str) nD (SqL.of upd_same) (by rw [List.length_map,List.length_map];omega) ?_ ?_ ?_
 ·rintro i z H1 H2 k (h | ⟨r,p,e,h1,h2⟩)
  ·exact .inl h
  ·exact .inr ⟨r,p,e,h1.kt k,h2⟩
 ·intro i v Hx R hv sx hR
  rw [List.getElem?_map,List.getElem?_map] at hv
  obtain⟨y,hy,rfl⟩:=Option.map_eq_some_iff.mp hv
  obtain⟨pc,hpc,rfl⟩:=Option.map_eq_some_iff.mp hy
  have lp:=l2 pc (List.mem_of_getElem? hpc)
  (iterate 3 (k_units;(try simp only [bst]));k_units)
  refine⟨pc,rfl,by omega,fun p bp e r H' s' k=>hR _ H' s' (.inr ⟨r,p,rfl,k,bp,by rw [hpc,e]⟩),fun h H' s'=>hR _ H' s' (.inl ⟨rfl,fun p bp e=>?_⟩)⟩
  rw [hpc] at e
  exact h p bp (Option.some.inj e)
 intro zs lz D' H' rl s' nD' kD'
 rw [List.length_map,List.length_map] at lz
 have sH:Same H H':=s0.trans s'
 dsimp only [a_seq]
 k_typeOf
 refine⟨_,SqL.of kD',fun z hz=>?_,ite2 (fun hn=>?_) (fun hn=>?_)⟩
 ·obtain⟨i,hi⟩:=List.getElem?_of_mem hz
  rcases rl i z hi with ⟨e,_⟩ | ⟨r,p,e,h1,_⟩
  ·exact .inl e
  ·exact .inr ⟨r,e,h1.seq⟩
 ·refine⟨by decide,?_⟩
  rcases q with ⟨ps,l1,l6,ok,e,_⟩ | ⟨_,q⟩
  ·exfalso
   have e2:=due ps (fun z=>by rw [z] at l1;simp at l1) e
   obtain⟨z,hz,nz⟩:=List.any_eq_true.mp hn
   obtain⟨i,hi⟩:=List.getElem?_of_mem hz
   rcases rl i z hi with ⟨_,g1⟩ | ⟨r,p,e,_⟩
   ·have i2:i < ps.length:=by
     have:=(List.getElem?_eq_some_iff.mp hi).1
     rw [lz,e2,List.length_map] at this
     exact this
    exact g1 ps[i] (ok _ (List.getElem_mem i2)).1 (by rw [e2,List.getElem?_map,List.getElem?_eq_getElem i2];rfl)
   ·rw [e] at nz;cases nz
  ·exact q _ sH
 have all:∀(i:Nat) (z:V),zs[i]?=some z->∃r p,z=.ref r∧PtAt H' r p∧prN p∧pcs[i]?=some (prT p):=fun i z hi=>by
  rcases rl i z hi with ⟨e,_⟩ | h
  ·exact absurd (List.any_eq_true.mpr ⟨z,List.mem_of_getElem? hi,by rw [e];rfl⟩) hn
  ·exact h
 obtain⟨rs,qs,ez,hQ,nq,eq⟩:∃(rs:List Addr) (qs:List Prt),zs=rs.map V.ref∧Pts H' rs qs∧(∀p∈qs,prN p)∧pcs=qs.map prT:=by
  clear kD' hn rl hj l2 l1 hp due q s' nD nD' s0
  induction zs generalizing pcs with
  | nil=>
   refine⟨[],[],rfl,⟨rfl,fun i r p e=>by simp at e⟩,fun p hp=>(nomatch hp),?_⟩
   exact List.eq_nil_of_length_eq_zero lz.symm
  | cons z zs ih=>
   match pcs,lz with
   | pc :: pcs,lz=>
    obtain⟨r,p,e1,h1,h2,h3⟩:=all 0 z rfl
    obtain⟨rs,qs,e2,h4,h5,h6⟩:=ih (pcs:=pcs) (by simpa using lz) (fun i z hi=>all (i+1) z hi)
    refine⟨r :: rs,p :: qs,by rw [e1,e2];rfl,⟨by simp [h4.len],fun i r' p' e e'=>?_⟩,fun p' hp=>?_,by rw [h6];cases Option.some.inj h3;rfl⟩
    ·cases i with
     | zero=>cases e;cases e';exact h1
     | succ i=>exact h4.get i r' p' e e'
    ·rcases List.mem_cons.mp hp with rfl | hp
     ·exact h2
     ·exact h5 p' hp
 rcases q with ⟨ps,l1,l6,ok,e,q⟩ | ⟨q,_⟩
 ·have e2:=due ps (fun z=>by rw [z] at l1;simp at l1) e
  have e3:qs=ps:=by
   have e4:=eq.symm.trans e2
   clear e2 eq q l6 e ez hQ l1
   induction qs generalizing ps with
   | nil=>exact (List.map_eq_nil_iff.mp e4.symm).symm
   | cons x qs ih=>
    cases ps with
    | nil=>cases e4
    | cons y ps=>
     rw [List.map_cons,List.map_cons] at e4
     obtain⟨h1,h2⟩:=List.cons.inj e4
     rw [prT_inj (nq x (.head _)) (ok y (.head _)).1 h1,ih (fun p hp=>nq p (.tail _ hp)) ps (fun p hp=>ok p (.tail _ hp)) h2]
  subst e3
  rw [ez] at kD'
  refine mk_term kD' hQ (fun p hp=>(ok p hp).2) l1 l6 fun x H3 s3 hx=>q x H' H3 rs sH (sH.trans s3) hx (hQ.on s3)
 ·exact absurd (by rw [← hj,eq];rfl) (q qs nq)
def cell (ns:List Int) (k:Nat):Int:=ns.getD k 0
def spCellAt (K:W.Frag):Sp:=fun vs H Q _=>∃(a:Addr) (ns:List Int) (k:Nat),vs=[.ref a,.int (k:Int)]∧SqL K H a (ns.map V.int)∧Q (.int (cell ns k)) H
theorem ok__law_cell_at {P:Program} {w:World} {K:W.Frag} {mg:Str->Option Value} {base:Heap} (T:Tx K mg):FnOk P w K mg base CX0 1 T.a__law_cell_at T.fd__law_cell_at ["_law_script","_law_k"] (spCellAt K):=by
 refine T.F__law_cell_at.ok sc__law_cell_at (fun vs H Q E h=>?_) (fun cdv A outer s H vs Q E hr h=>?_)
 ·obtain⟨a,ns,k,rfl,_⟩:=h
  rfl
 obtain⟨a,ns,k,rfl,hS,q⟩:=h
 refine⟨_,((pss_cons (ps_if (pt_cmpR op_lt (pv 1) (pe_callB call_len_seq rfl T.z_len bt_len (pa_cons (pv 0) pa_nil)) (nomark _)) (pss_one (ps_ret (pe_ix ix_list (pv 0) (pv 1) (fun _ _=>rfl)))) pss_nil)
  (pss_one (ps_ret pe_int)))),?_⟩
 k_units
 refine⟨_,.inl hS,?_⟩
 rw [List.length_map]
 unfold cell at q
 refine ite2 (fun h=>?_) (fun h=>?_)
 ·have h':k < ns.length:=by omega
  rw [List.getD_eq_getElem?_getD,List.getElem?_eq_getElem h'] at q
  exact⟨_,hS,_,at_int h',q⟩
 ·rw [List.getD_eq_getElem?_getD,List.getElem?_eq_none (by omega)] at q
  exact q
def spNum13:Sp:=fun vs H Q _=>∃(c m:Int),vs=[.int c,.int m]∧(m=10 ^ 60∨m=10 ^ 20∨m=10 ^ 59)∧∀n:Int,n.natAbs < m.natAbs->Q (.int n) H
theorem ok__law_number {P:Program} {w:World} {K:W.Frag} {mg:Str->Option Value} {base:Heap} (T:Tx K mg):FnOk P w K mg base CX0 1 T.a__law_number T.fd__law_number ["_law_cell","_law_most"] spNum13:=by
 refine T.F__law_number.ok sc__law_number (fun vs H Q E h=>?_) (fun cdv A outer s H vs Q E hr h=>?_)
 ·obtain⟨c,m,rfl,_⟩:=h
  rfl
 obtain⟨c,m,rfl,hm,q⟩:=h
 refine⟨_,((pss_cons (ps_if (pt_cmpR op_eq (pe_op op_mod (pv 0) pe_int) pe_int (nomark _)) (pss_one (ps_ret (pe_op op_add (pe_op op_sub (pe_op op_mod (pe_op op_fdiv (pv 0) pe_int) (pe_op op_sub (pe_op op_mul pe_int (pv 1)) pe_int)) (pv 1)) pe_int))) pss_nil)
  (pss_cons (ps_if (pt_cmpR op_eq (pe_op op_mod (pv 0) pe_int) pe_int (nomark _)) (pss_one (ps_ret (pe_op op_sub (pe_op op_mod (pe_op op_fdiv (pv 0) pe_int) pe_int) pe_int))) pss_nil)
  (pss_one (ps_ret (pe_op op_sub (pe_op op_mod (pe_op op_fdiv (pv 0) pe_int) pe_int) pe_int)))))),?_⟩
 k_units
 have d:CDiv c 3:=⟨by decide,by decide⟩
 have big:10 ^ 18<=m.natAbs∧(0:Int) < m:=by rcases hm with rfl | rfl | rfl <;> decide
 refine⟨by decide,ite2 (fun h=>?_) (fun h=>⟨by decide,ite2 (fun h2=>?_) (fun h2=>?_)⟩)⟩
 ·have h1:=Int.emod_nonneg (c / 3) (show (2 * m - 1:Int)≠0 by omega)
  have h2:=Int.emod_lt_of_pos (c / 3) (show (0:Int) < 2 * m - 1 by omega)
  exact⟨d,.inl ⟨by decide,by decide⟩,by omega,q _ (by omega)⟩
 ·exact⟨d,by decide,q _ (by omega)⟩
 ·exact⟨d,by decide,q _ (by omega)⟩
def spMixed:Sp:=fun vs H Q _=>∃(c:Int) (k:Nat),vs=[.int c,.int (k:Int)]∧k<=10∧∀n:Int,0<=n->Q (.int n) H
theorem ok__law_mixed {P:Program} {w:World} {K:W.Frag} {mg:Str->Option Value} {base:Heap} (T:Tx K mg):FnOk P w K mg base CX0 1 T.a__law_mixed T.fd__law_mixed ["_law_cell","_law_k"] spMixed:=by
 refine T.F__law_mixed.ok sc__law_mixed (fun vs H Q E h=>?_) (fun cdv A outer s H vs Q E hr h=>?_)
 ·obtain⟨c,k,rfl,_⟩:=h
  rfl
 obtain⟨c,k,rfl,hk,q⟩:=h
 refine⟨_,((pss_cons (ps_if (pt_cmpR op_eq (pe_op op_mod (pv 0) pe_int) pe_int (nomark _)) (pss_cons (ps_set (i:=2) sc__law_mixed.nd rfl (Or.inl rfl) (pe_op op_fdiv (pe_callB call_abs rfl T.z_abs bt_abs (pa_cons (pv 0) pa_nil)) pe_int))
  (pss_cons (ps_for PassesOwn.never rfl (pi_range1 rfl T.z_range (pa_cons (pv 1) pa_nil)) (pg_name (i:=3) sc__law_mixed.nd rfl (Or.inl rfl)) (pss_one (ps_set (i:=2) sc__law_mixed.nd rfl (Or.inl rfl) (pe_op op_fdivB (pv 2) (pe_op op_pow pe_int pe_int)))))
  (pss_one (ps_ret (pv 2))))) pss_nil)
  (pss_cons (ps_set (i:=2) sc__law_mixed.nd rfl (Or.inl rfl) (pe_op op_mod (pe_op op_add (pv 0) (pe_op op_mul pe_int (pv 1))) pe_int))
  (pss_cons (ps_set (i:=2) sc__law_mixed.nd rfl (Or.inl rfl) (pe_op op_mod (pe_op op_add (pe_op op_add (pe_op op_mulZ (pv 2) (pv 2)) (pe_op op_mul pe_int (pv 2))) (pv 1)) pe_int))
  (pss_one (ps_ret (pe_op op_mod (pe_op op_mulZ (pv 2) (pv 2)) pe_int))))))),?_⟩
 k_units
 have bd12:((10:Int) ^ Int.toNat 12).natAbs < 2 ^ 9000:=Nat.lt_of_lt_of_le (show _ < 2 ^ 40 by decide) (Nat.pow_le_pow_right (by decide) (by decide))
 refine⟨by decide,ite2 (fun h=>⟨⟨by decide,by decide⟩,by omega,by omega,?_⟩) (fun h=>?_)⟩
 ·have h0:0<=(if c < 0 then -c else c) / 2:=by split <;> omega
  generalize (if c < 0 then -c else c) / 2=n0 at h0
  rw [Int.toNat_natCast]
  obtain⟨Pv,hPv⟩:∃Pv:Nat->L2.St->Hp->Prop,∀i σ H',Pv i σ H'↔∃(n:Int) (r3:Option V),σ=[some (V.int c),some (V.int (k:Int)),some (V.int n),r3]∧0<=n∧H'=H:=⟨_,fun _ _ _=>Iff.rfl⟩
  refine lp_range Pv ((hPv _ _ _).mpr ⟨n0,none,rfl,h0,rfl⟩) ?_ ?_
  ·intro i σ H' hi hp
   obtain⟨n,r3,rfl,hn,rfl⟩:=(hPv _ _ _).mp hp
   k_units
   exact⟨⟨by decide,by decide,by decide⟩,by decide,bd12,(hPv _ _ _).mpr ⟨n.fdiv ((10:Int) ^ Int.toNat 12),_,rfl,Int.fdiv_nonneg hn (by decide),rfl⟩⟩
  ·intro σ H' hp
   obtain⟨n,r3,rfl,hn,rfl⟩:=(hPv _ _ _).mp hp
   k_units
   exact q n hn
 ·obtain⟨m,hm,m0,m1⟩:∃m:Int,(c+7919 * (k:Int)) % 2147483629=m∧0<=m∧m < 2147483629:=⟨_,rfl,by omega,by omega⟩
  rw [hm]
  obtain⟨m',hm',m0',m1'⟩:∃m':Int,(m * m+16807 * m+(k:Int)) % 2147483629=m'∧0<=m'∧m' < 2147483629:=⟨_,rfl,Int.emod_nonneg _ (by decide),Int.emod_lt_of_pos _ (by decide)⟩
  rw [hm']
  have bm:Bd 31 m:=Bd.of_lt (m:=2147483629) (by omega) (by decide)
  have bm':Bd 31 m':=Bd.of_lt (m:=2147483629) (by omega) (by decide)
  exact⟨.inl ⟨by decide,by decide⟩,by decide,bm.fits bm (by decide),.inl ⟨by decide,by decide⟩,by decide,bm'.fits bm' (by decide),by decide,q _ (Int.emod_nonneg _ (by decide))⟩
def mkPt (H:Hp) (Q:VK) (p:Prt):Prop:=∀(r:Addr) (H':Hp),Same H H'->PtAt H' r p->Q (.ref r) H'
def spFms:Sp:=fun vs H Q _=>∃a b:Int,vs=[.int a,.int b,.int 3]∧0<=a∧0<=b∧∀h l,ChoOk h l->mkPt H Q (.cho h l)
theorem ok__law_forms {P:Program} {w:World} {K:W.Frag} {mg:Str->Option Value} {base:Heap} (T:Tx K mg):FnOk P w K mg base CX0 1 T.a__law_forms T.fd__law_forms ["_law_one","_law_other","_law_most"] spFms:=by
 refine T.F__law_forms.ok sc__law_forms (fun vs H Q E h=>?_) (fun cdv A outer s H vs Q E hr h=>?_)
 ·obtain⟨a,b,rfl,_⟩:=h
  rfl
 obtain⟨a,b,rfl,ha,hb,k⟩:=h
 refine⟨_,((pss_cons (ps_set (i:=3) sc__law_forms.nd rfl (Or.inl rfl) (pe_tup (pa_cons (pe_op op_mod (pv 0) (pe_op op_add (pv 2) pe_int)) (pa_cons (pe_op op_mod (pe_op op_fdiv (pv 0) pe_int) (pe_op op_add (pv 2) pe_int)) (pa_cons (pe_op op_mod (pe_op op_fdiv (pv 0) pe_int) pe_int) pa_nil)))))
  (pss_mid (ps_if (pt_cmpR op_eq (pe_op op_mod (pe_op op_fdiv (pv 0) pe_int) pe_int) pe_int (nomark _)) (pss_one (ps_set (i:=4) sc__law_forms.nd rfl (Or.inl rfl) (pe_tup (pa_cons (pe_op op_mod (pv 1) (pe_op op_add (pe_ix ix_tup (pv 3) pe_int (fun _ _=>rfl)) pe_int)) (pa_cons (pe_op op_sub (pe_op op_mod (pe_op op_fdiv (pv 1) pe_int) pe_int) pe_int) (pa_cons (pe_op op_mod (pe_op op_fdiv (pv 1) pe_int) (pe_op op_add (pe_ix ix_tup (pv 3) pe_int (fun _ _=>rfl)) pe_int)) pa_nil)))))) (pss_one (ps_set (i:=4) sc__law_forms.nd rfl (Or.inl rfl) (pe_tup (pa_cons (pe_op op_sub (pe_op op_mod (pv 1) (pe_op op_add (pe_op op_mul pe_int (pv 2)) pe_int)) (pv 2)) (pa_cons (pe_op op_sub (pe_op op_mod (pe_op op_fdiv (pv 1) pe_int) (pe_op op_add (pe_op op_mul pe_int (pv 2)) pe_int)) (pv 2)) (pa_cons (pe_op op_sub (pe_op op_mod (pe_op op_fdiv (pv 1) pe_int) pe_int) pe_int) pa_nil)))))))
  (pss_mid (ps_if (PW.pt (pw_and (pt_cmpR op_eq (pe_ix ix_tup (pv 4) pe_int (fun _ _=>rfl)) pe_int (nomark _)) (pw_and1 (pt_cmpR op_lt (pe_ix ix_tup (pv 4) pe_int (fun _ _=>rfl)) pe_int (nomark _))))) (pss_one (ps_set (i:=4) sc__law_forms.nd rfl (Or.inl rfl) (pe_tup (pa_cons pe_int (pa_cons (pe_un un_neg (pe_ix ix_tup (pv 4) pe_int (fun _ _=>rfl))) (pa_cons (pe_ix ix_tup (pv 4) pe_int (fun _ _=>rfl)) pa_nil)))))) pss_nil)
  (pss_mid (ps_if (PW.pt (pw_and (pt_cmpR op_eq (pe_ix ix_tup (pv 4) pe_int (fun _ _=>rfl)) (pe_ix ix_tup (pv 3) pe_int (fun _ _=>rfl)) (nomark _)) (pw_and1 (pt_cmpR op_gt (pe_ix ix_tup (pv 4) pe_int (fun _ _=>rfl)) (pe_ix ix_tup (pv 3) pe_int (fun _ _=>rfl)) (nomark _))))) (pss_one (ps_set (i:=4) sc__law_forms.nd rfl (Or.inl rfl) (pe_tup (pa_cons (pe_ix ix_tup (pv 4) pe_int (fun _ _=>rfl)) (pa_cons (pe_ix ix_tup (pv 3) pe_int (fun _ _=>rfl)) (pa_cons (pe_ix ix_tup (pv 4) pe_int (fun _ _=>rfl)) pa_nil)))))) pss_nil)
  (pss_one (ps_ret (pe_tup (pa_cons pe_str (pa_cons (pv 3) (pa_cons (pv 4) pa_nil))))))))))),?_⟩
 have d:∀c:Int,0 < c->c < 2 ^ 30->CDiv a c∧CDiv b c:=fun c h1 h2=>⟨⟨h1,h2⟩,⟨h1,h2⟩⟩
 dsimp only [a_seq]
 k_typeOf
 refine⟨by decide,(d _ (by decide) (by decide)).1,by decide,(d _ (by decide) (by decide)).1,by decide,by decide,fun p np=>?_⟩
 obtain⟨h,hh⟩:∃h:Int×Int×Int,h=(a % (3+1),a / 4 % (3+1),a / 16 % 10):=⟨_,rfl⟩
 have hb':0<=h.1∧h.1<=3∧0<=h.2.1∧h.2.1<=3∧0<=h.2.2∧h.2.2<=9:=by rw [hh];refine⟨?_,?_,?_,?_,?_,?_⟩ <;> (dsimp only;omega)
 obtain⟨G,hG⟩:∃G,G=L2.upd H p (.tup [V.int (a % (3+1)),V.int (a / 4 % (3+1)),V.int (a / 16 % 10)]):=⟨_,rfl⟩
 have gp:G p=some (T3 h):=by rw [hG,hh];exact upd_same
 have s0:Same H G:=by rw [hG];exact same_upd np _
 rw [← hG]
 clear hG hh
 obtain⟨M,hM⟩:∃M:(Int×Int×Int->Prop)->L2.St->Hp->Prop,∀C σ H',M C σ H'↔∃(q:Addr) (l:Int×Int×Int),σ=[some (V.int a),some (V.int b),some (V.int 3),some (V.ref p),some (V.ref q)]∧H' q=some (T3 l)∧(-3<=l.1∧l.1<=3∧-3<=l.2.1∧l.2.1<=3∧-9<=l.2.2∧l.2.2<=9)∧C l∧Same G H':=⟨_,fun _ _ _=>Iff.rfl⟩
 refine mid_of (M fun _=>True) ?_ ?_
 ·k_units
  refine⟨(d _ (by decide) (by decide)).1,by decide,ite2 (fun z=>?_) (fun z=>?_)⟩
  ·refine⟨_,SqT.of gp,_,rfl,_,rfl,by omega,(d _ (by decide) (by decide)).2,by decide,(d _ (by decide) (by decide)).2,_,SqT.of gp,_,rfl,_,rfl,by omega,by decide,fun q nq=>?_⟩
   have e1:=Int.emod_nonneg b (show h.1+1≠0 by omega)
   have e2:=Int.emod_lt_of_pos b (show 0 < h.1+1 by omega)
   have e3:=Int.emod_nonneg (b / 12) (show h.2.2+1≠0 by omega)
   have e4:=Int.emod_lt_of_pos (b / 12) (show 0 < h.2.2+1 by omega)
   exact (hM _ _ _).mpr ⟨q,(b % (h.1+1),b / 4 % 3 - 1,b / 12 % (h.2.2+1)),rfl,upd_same,⟨by dsimp only;omega,by dsimp only;omega,by dsimp only;omega,by dsimp only;omega,by dsimp only;omega,by dsimp only;omega⟩,trivial,same_upd nq _⟩
  ·refine⟨.inl ⟨by decide,by decide⟩,by decide,(d _ (by decide) (by decide)).2,.inl ⟨by decide,by decide⟩,by decide,(d _ (by decide) (by decide)).2,by decide,by decide,fun q nq=>?_⟩
   exact (hM _ _ _).mpr ⟨q,(b % (2 * 3+1) - 3,b / 7 % (2 * 3+1) - 3,b / 49 % 19 - 9),rfl,upd_same,⟨by dsimp only;omega,by dsimp only;omega,by dsimp only;omega,by dsimp only;omega,by dsimp only;omega,by dsimp only;omega⟩,trivial,same_upd nq _⟩
 intro σ H1 hm
 obtain⟨q,l,rfl,eq,lb,_,s1⟩:=(hM _ _ _).mp hm
 refine mid_of (M fun l=>¬(l.1=0∧l.2.1 < 0)) ?_ ?_
 ·k_units
  refine⟨_,SqT.of eq,_,rfl,?_⟩
  k_units
  refine ite2 (fun z=>⟨_,SqT.of eq,_,rfl,?_⟩) (fun z=>(hM _ _ _).mpr ⟨q,l,rfl,eq,lb,fun y=>z y.1,s1⟩)
  k_units
  refine ite2 (fun z2=>?_) (fun z2=>(hM _ _ _).mpr ⟨q,l,rfl,eq,lb,fun y=>z2 y.2,s1⟩)
  exact⟨_,SqT.of eq,_,rfl,_,rfl,_,SqT.of eq,_,rfl,by decide,fun q2 nq2=>(hM _ _ _).mpr ⟨q2,(0,-l.2.1,l.2.2),rfl,upd_same,⟨by dsimp only;omega,by dsimp only;omega,by dsimp only;omega,by dsimp only;omega,by dsimp only;omega,by dsimp only;omega⟩,by dsimp only;omega,s1.trans (same_upd nq2 _)⟩⟩
 clear hm lb eq s1
 intro σ H1 hm
 obtain⟨q,l,rfl,eq,lb,c1,s1⟩:=(hM _ _ _).mp hm
 refine mid_of (M fun l=>¬(l.1=0∧l.2.1 < 0)∧¬(h.1 - l.1=0∧h.2.1 - l.2.1 < 0)) ?_ ?_
 ·k_units
  refine⟨_,SqT.of eq,_,rfl,_,SqT.of (s1 _ _ gp),_,rfl,?_⟩
  k_units
  refine ite2 (fun z=>⟨_,SqT.of eq,_,rfl,_,SqT.of (s1 _ _ gp),_,rfl,_,rfl,_,rfl,ite2 (fun z2=>?_) (fun z2=>(hM _ _ _).mpr ⟨q,l,rfl,eq,lb,⟨c1,fun y=>z2 (by omega)⟩,s1⟩)⟩) (fun z=>(hM _ _ _).mpr ⟨q,l,rfl,eq,lb,⟨c1,fun y=>z (by omega)⟩,s1⟩)
  exact⟨_,SqT.of eq,_,rfl,_,SqT.of (s1 _ _ gp),_,rfl,_,SqT.of eq,_,rfl,by decide,fun q2 nq2=>(hM _ _ _).mpr ⟨q2,(l.1,h.2.1,l.2.2),rfl,upd_same,⟨by dsimp only;omega,by dsimp only;omega,by dsimp only;omega,by dsimp only;omega,by dsimp only;omega,by dsimp only;omega⟩,by dsimp only;omega,s1.trans (same_upd nq2 _)⟩⟩
 clear hm lb eq s1
 intro σ H1 hm
 obtain⟨q,l,rfl,eq,lb,⟨c1,c2⟩,s1⟩:=(hM _ _ _).mp hm
 k_units
 exact⟨by decide,fun r nr=>k h l ⟨hb',lb,c1,c2⟩ r _ ((s0.trans s1).trans (same_upd nr _)) ⟨p,q,upd_same,same_upd nr _ _ _ (s1 _ _ gp),same_upd nr _ _ _ eq⟩⟩
def spRat:Sp:=fun vs H Q _=>∃a b:Int,vs=[.int a,.int b]∧∀f:Int×Int,Frc f->f.1≠0->Bd 70 f.1->Bd 20 f.2->∀(r:Addr) (H':Hp),Same H H'->H' r=some (T2 f)->Q (.ref r) H'
theorem ok__law_ratio {P:Program} {w:World} {K:W.Frag} {mg:Str->Option Value} {base:Heap} (T:Tx K mg):FnOk P w K mg base CX0 2 T.a__law_ratio T.fd__law_ratio ["_law_one","_law_other"] spRat:=by
 refine T.F__law_ratio.ok sc__law_ratio (fun vs H Q E h=>?_) (fun cdv A outer s H vs Q E hr h=>?_)
 ·obtain⟨a,b,rfl,_⟩:=h
  rfl
 obtain⟨a,b,rfl,k⟩:=h
 refine⟨_,((pss_cons (ps_set (i:=2) sc__law_ratio.nd rfl (Or.inl rfl) (pe_call (FnOk.mono (ok__law_number T) (by decide)) hr rfl T.m__law_number T.F__law_number.kp T.b__law_number .nil pass0 (pa_cons (pv 0) (pa_cons (pe_op op_pow pe_int pe_int) pa_nil))))
  (pss_mid (ps_if (pt_cmpR op_eq (pv 2) pe_int (nomark _)) (pss_one (ps_set (i:=2) sc__law_ratio.nd rfl (Or.inl rfl) pe_int)) pss_nil)
  (pss_cons (ps_set (i:=3) sc__law_ratio.nd rfl (Or.inl rfl) (pe_call (FnOk.mono (ok__law_mixed T) (by decide)) hr rfl T.m__law_mixed T.F__law_mixed.kp T.b__law_mixed .nil pass0 (pa_cons (pv 1) (pa_cons pe_int pa_nil))))
  (pss_cons (ps_set (i:=4) sc__law_ratio.nd rfl (Or.inl rfl) (pe_ix ix_list (pe_lst (pa_cons pe_int (pa_cons (pe_op op_add pe_int (pe_op op_mod (pe_op op_fdiv (pv 3) pe_int) pe_int)) (pa_cons (pe_op op_add pe_int (pe_op op_mod (pe_op op_fdiv (pv 3) pe_int) (pe_op op_pow pe_int pe_int))) pa_nil)))) (pe_op op_mod (pv 3) pe_int) (fun _ _=>rfl)))
  (pss_cons (ps_set (i:=5) sc__law_ratio.nd rfl (Or.inl rfl) (pe_call (FnOk.mono (ok__law_divisor T) (by decide)) hr rfl T.m__law_divisor T.F__law_divisor.kp T.b__law_divisor .nil pass0 (pa_cons (pv 2) (pa_cons (pv 4) pa_nil))))
  (pss_one (ps_ret (pe_tup (pa_cons (pe_op op_fdivB (pv 2) (pv 5)) (pa_cons (pe_op op_fdivB (pv 4) (pv 5)) pa_nil))))))))))),?_⟩
 dsimp only [a_seq]
 k_typeOf
 refine⟨⟨by decide,by decide,by decide⟩,a,_,rfl,.inr (.inl rfl),fun t ht=>?_⟩
 obtain⟨M,hM⟩:∃M:L2.St->Hp->Prop,∀σ H',M σ H'↔∃t:Int,σ=[some (V.int a),some (V.int b),some (V.int t),none,none,none]∧t≠0∧Bd 70 t∧H'=H:=⟨_,fun _ _=>Iff.rfl⟩
 have bt:Bd 70 t:=Nat.lt_of_lt_of_le ht (by decide)
 refine mid_of M ?_ ?_
 ·k_units
  exact ite2 (fun z=>(hM _ _).mpr ⟨1,rfl,by decide,Bd.one (by decide),rfl⟩) (fun z=>(hM _ _).mpr ⟨t,rfl,z,bt,rfl⟩)
 clear bt ht
 intro σ H1 hm
 obtain⟨t',rfl,t0,bt,rfl⟩:=(hM _ _).mp hm
 dsimp only [a_seq]
 k_typeOf
 refine⟨b,3,rfl,by decide,fun m hm0=>?_⟩
 dsimp only [a_seq]
 k_typeOf
 refine⟨⟨by decide,by decide⟩,by decide,⟨by decide,by decide⟩,⟨by decide,by decide,by decide⟩,by decide,by decide,fun p np=>⟨by decide,_,SqL.of upd_same,?_⟩⟩
 have e6:(10:Int) ^ Int.toNat 6=1000000:=rfl
 obtain⟨bo,hbo,b1,b2⟩:∃bo:Int,atI [V.int 1,V.int (1+m / 3 % 9),V.int (1+m / 3 % (10:Int) ^ Int.toNat 6)] (m % 3)=some (V.int bo)∧1<=bo∧bo<=1000000:=by
  rw [e6]
  have:m % 3=0∨m % 3=1∨m % 3=2:=by omega
  rcases this with z | z | z <;> rw [z]
  ·exact⟨_,rfl,by omega,by omega⟩
  ·exact⟨_,rfl,by omega,by omega⟩
  ·exact⟨_,rfl,by omega,by omega⟩
 refine⟨_,hbo,?_⟩
 clear hbo
 have u1:=same_upd np (.lst [V.int 1,V.int (1+m / 3 % 9),V.int (1+m / 3 % (10:Int) ^ Int.toNat 6)])
 generalize L2.upd H1 p (.lst [V.int 1,V.int (1+m / 3 % 9),V.int (1+m / 3 % (10:Int) ^ Int.toNat 6)])=G at u1
 dsimp only [a_seq]
 k_typeOf
 refine⟨t',bo,rfl,?_⟩
 k_units
 obtain⟨g1,g2,g3,g4,g5,g6⟩:=gcd_split (t:=t') (b:=bo) (s:=((Nat.gcd t'.natAbs bo.natAbs:Nat):Int)) (by omega) (by rw [if_neg (by omega)])
 have small:(((Nat.gcd t'.natAbs bo.natAbs:Nat):Int)).natAbs < 2 ^ 9000:=by
  rw [Int.natAbs_natCast]
  exact Nat.lt_of_le_of_lt (Nat.gcd_le_right _ (by omega)) (Nat.lt_of_le_of_lt (show bo.natAbs<=1000000 by omega) (Nat.lt_of_lt_of_le (show 1000000 < 2 ^ 20 by decide) (Nat.pow_le_pow_right (by decide) (by decide))))
 have f0:t'.fdiv ((Nat.gcd t'.natAbs bo.natAbs:Nat):Int)≠0:=fun z=>by rw [z] at g3;omega
 refine⟨g1,small,g1,small,by decide,fun r nr=>k (_,_) ⟨g5,g6⟩ f0 (bd_le (fdiv_le g1 g3) bt) (bd_le (fdiv_le g1 g4) (Bd.of_lt (m:=1000001) (by omega) (by decide))) r _ (u1.trans (same_upd nr _)) upd_same⟩
theorem ite3 {a b X Y:Prop} [Decidable a] [Decidable b] (h1:a->b->X) (h2:Y):if a then (if b then X else Y) else Y:=by
 by_cases ha:a
 ·rw [if_pos ha]
  by_cases hb:b
  ·rw [if_pos hb];exact h1 ha hb
  ·rw [if_neg hb];exact h2
 ·rw [if_neg ha];exact h2
theorem PtAt.head {H:Hp} {r:Addr} {p:Prt} (h:PtAt H r p):∃(s:Str) (xs:List V),H r=some (.tup (.str s :: xs)):=by
 match p,h with
 | .cho f l,⟨a,b,h1,_⟩=>exact⟨_,_,h1⟩
 | .wei f,⟨a,h1,_⟩=>exact⟨_,_,h1⟩
 | .pow f,⟨a,h1,_⟩=>exact⟨_,_,h1⟩
 | .gro f,⟨a,h1,_⟩=>exact⟨_,_,h1⟩
def spPrt (K:W.Frag):Sp:=fun vs H Q _=>∃(A:Addr) (x y z m:Int),vs=[.ref A,.int m]∧H A=some (.lst [.int x,.int y,.int z])∧(m=3∨m=0)∧∀p,PrtOk p->mkPt H Q p
theorem ok__law_part {P:Program} {w:World} {K:W.Frag} {mg:Str->Option Value} {base:Heap} (T:Tx K mg):FnOk P w K mg base CX0 3 T.a__law_part T.fd__law_part ["_law_cells","_law_most"] (spPrt K):=by
 refine T.F__law_part.ok sc__law_part (fun vs H Q E h=>?_) (fun cdv A outer s H vs Q E hr h=>?_)
 ·obtain⟨A,x,y,z,m,rfl,_⟩:=h
  rfl
 obtain⟨A,x,y,z,m,rfl,hA,hm,k⟩:=h
 refine⟨_,((pss_cons (ps_set (i:=2) sc__law_part.nd rfl (Or.inl rfl) (pe_op op_mod (pe_call (FnOk.mono (ok__law_mixed T) (by decide)) hr rfl T.m__law_mixed T.F__law_mixed.kp T.b__law_mixed .nil pass0 (pa_cons (pe_ix ix_list (pv 0) pe_int (fun _ _=>rfl)) (pa_cons pe_int pa_nil))) pe_int))
  (pss_cons (ps_if (PW.pt (pw_and (pt_cmpR op_lt (pv 2) pe_int (nomark _)) (pw_and1 (pt_cmpR op_gt (pv 1) pe_int (nomark _))))) (pss_one (ps_ret (pe_call (FnOk.mono (ok__law_forms T) (by decide)) hr rfl T.m__law_forms T.F__law_forms.kp T.b__law_forms .nil pass0 (pa_cons (pe_call (FnOk.mono (ok__law_mixed T) (by decide)) hr rfl T.m__law_mixed T.F__law_mixed.kp T.b__law_mixed .nil pass0 (pa_cons (pe_ix ix_list (pv 0) pe_int (fun _ _=>rfl)) (pa_cons pe_int pa_nil))) (pa_cons (pe_call (FnOk.mono (ok__law_mixed T) (by decide)) hr rfl T.m__law_mixed T.F__law_mixed.kp T.b__law_mixed .nil pass0 (pa_cons (pe_ix ix_list (pv 0) pe_int (fun _ _=>rfl)) (pa_cons pe_int pa_nil))) (pa_cons (pv 1) pa_nil)))))) pss_nil)
  (pss_cons (ps_if (pt_cmpR op_eq (pv 2) pe_int (nomark _)) (pss_one (ps_ret (pe_tup (pa_cons pe_str (pa_cons (pe_call (FnOk.mono (ok__law_ratio T) (by decide)) hr rfl T.m__law_ratio T.F__law_ratio.kp T.b__law_ratio .nil pass0 (pa_cons (pe_ix ix_list (pv 0) pe_int (fun _ _=>rfl)) (pa_cons (pe_ix ix_list (pv 0) pe_int (fun _ _=>rfl)) pa_nil))) pa_nil))))) pss_nil)
  (pss_cons (ps_if (pt_cmpR op_eq (pv 2) pe_int (nomark _)) (pss_one (ps_ret (pe_tup (pa_cons pe_str (pa_cons (pe_call (FnOk.mono (ok__law_ratio T) (by decide)) hr rfl T.m__law_ratio T.F__law_ratio.kp T.b__law_ratio .nil pass0 (pa_cons (pe_ix ix_list (pv 0) pe_int (fun _ _=>rfl)) (pa_cons (pe_ix ix_list (pv 0) pe_int (fun _ _=>rfl)) pa_nil))) pa_nil))))) pss_nil)
  (pss_one (ps_ret (pe_tup (pa_cons pe_str (pa_cons (pe_callTy call_tuple_of rfl T.z_tuple bt_tuple (pa_cons (pe_lcomp rfl (blkok rfl sub_nil fv_nil) (pi_list (pv 0)) (fun _ _ _ _=>(pe_call (FnOk.mono (ok__law_number T) (by decide)) hr rfl T.m__law_number T.F__law_number.kp T.b__law_number .nil pass0 (pa_cons (pv 0) (pa_cons (pe_op op_pow pe_int pe_int) pa_nil))))) pa_nil)) pa_nil)))))))))),?_⟩
 dsimp only [a_seq]
 k_typeOf
 refine⟨_,SqL.of hA,_,rfl,x,0,rfl,by decide,fun wy w0=>⟨wy,rfl,by decide,?_⟩⟩
 dsimp only [a_seq]
 k_typeOf
 refine ite3 (fun _ m0=>⟨_,SqL.of hA,_,rfl,y,1,rfl,by decide,fun n1 p1=>⟨_,SqL.of hA,_,rfl,z,2,rfl,by decide,fun n2 p2=>⟨n1,n2,?_,p1,p2,fun h l c=>k (.cho h l) c⟩⟩⟩) ?_
 ·rw [show m=3 by omega]
 dsimp only [a_seq]
 k_typeOf
 refine ite2 (fun _=>⟨_,SqL.of hA,_,rfl,_,SqL.of hA,_,rfl,y,z,rfl,fun f h1 h2 h3 h4 a H1 s1 ea=>⟨by decide,fun r nr=>?_⟩⟩) (fun _=>?_)
 ·exact k (.pow f) ⟨h1,h2,h3,h4⟩ r _ (s1.trans (same_upd nr _)) ⟨a,upd_same,same_upd nr _ _ _ ea⟩
 dsimp only [a_seq]
 k_typeOf
 refine ite2 (fun _=>⟨_,SqL.of hA,_,rfl,_,SqL.of hA,_,rfl,y,z,rfl,fun f h1 h2 h3 h4 a H1 s1 ea=>⟨by decide,fun r nr=>?_⟩⟩) (fun _=>?_)
 ·exact k (.gro f) ⟨h1,h2,h3,h4⟩ r _ (s1.trans (same_upd nr _)) ⟨a,upd_same,same_upd nr _ _ _ ea⟩
 k_units
 refine⟨⟨_,SqL.of hA⟩,fun D nD=>?_⟩
 obtain⟨Pc,hPc⟩:∃Pc:Nat->Hp->Prop,∀j Hx,Pc j Hx↔∃us:List Int,Hx D=some (.lst (us.map V.int))∧us.length=j∧(∀u∈us,NB u)∧Same H Hx:=⟨_,fun _ _=>Iff.rfl⟩
 refine cl_list (xs:=[V.int x,V.int y,V.int z]) Pc ((hPc _ _).mpr ⟨[],upd_same,rfl,fun u hu=>by simp at hu,same_upd nD _⟩) (fun i Hx _ y=>by obtain⟨_,_,_,_,y⟩:=(hPc i Hx).mp y;exact y.seq (SqL.of hA)) ?_ ?_
 ·intro j v Hx hv hc
  obtain⟨us,k1,k2,k3,k4⟩:=(hPc _ _).mp hc
  obtain⟨c,rfl,hj⟩:∃c:Int,v=V.int c∧j < 3:=by
   match j,hv with
   | 0,hv=>exact⟨x,(Option.some.inj hv).symm,by decide⟩
   | 1,hv=>exact⟨y,(Option.some.inj hv).symm,by decide⟩
   | 2,hv=>exact⟨z,(Option.some.inj hv).symm,by decide⟩
   | j+3,hv=>simp at hv
  (iterate 3 (k_units;(try simp only [bst,Option.getD_some]));k_units)
  refine⟨⟨by decide,by decide,by decide⟩,c,_,rfl,.inl rfl,fun u hu=>⟨_,k1,by rw [List.length_map];exact small1000 (by omega),(hPc _ _).mpr ⟨us++[u],by rw [upd_same];simp,by simp [k2],fun v hv=>?_,k4.more nD⟩⟩⟩
  rcases List.mem_append.mp hv with hv | hv
  ·exact k3 v hv
  ·rw [List.mem_singleton.mp hv]
   exact Nat.lt_of_lt_of_le hu (by decide)
 intro Hx hc
 obtain⟨us,k1,k2,k3,k4⟩:=(hPc _ _).mp hc
 match us,k2 with
 | [a,b,c],_=>
  refine⟨D,rfl,_,.inl ⟨SqL.of k1,fun q nq=>⟨by decide,fun r nr=>?_⟩⟩⟩
  have u1:=same_upd nq (.tup ([a,b,c].map V.int))
  exact k (.wei (a,b,c)) ⟨k3 a (by simp),k3 b (by simp),k3 c (by simp)⟩ r _ ((k4.trans u1).trans (same_upd nr _)) ⟨q,upd_same,same_upd nr _ _ _ upd_same⟩
def spPts (K:W.Frag):Sp:=fun vs H Q _=>∃(A M:Addr) (ns:List Int),vs=[.ref A,.ref M]∧SqL K H A (ns.map V.int)∧H M=some (.lst [.int 3,.int 3,.int 3,.int 3,.int 3,.int 3])∧
 ∀(L:Addr) (rs:List Addr) (ps:List Prt) (H':Hp),Same H H'->H L=none->H' L=some (.lst (rs.map V.ref))->Pts H' rs ps->(∀p∈ps,PrtOk p)->1<=ps.length->ps.length<=6->Q (.ref L) H'
theorem ok__law_parts {P:Program} {w:World} {K:W.Frag} {mg:Str->Option Value} {base:Heap} (T:Tx K mg):FnOk P w K mg base CX0 4 T.a__law_parts T.fd__law_parts ["_law_script","_law_mosts"] (spPts K):=by
 refine T.F__law_parts.ok sc__law_parts (fun vs H Q E h=>?_) (fun cdv A outer s H vs Q E hr h=>?_)
 ·obtain⟨A,M,ns,rfl,_⟩:=h
  rfl
 obtain⟨A,M,ns,rfl,hA,hM,k⟩:=h
 refine⟨_,((pss_cons (ps_set (i:=2) sc__law_parts.nd rfl (Or.inl rfl) (pe_lst pa_nil))
  (pss_cons (ps_for PassesOwn.never rfl (pi_range1 rfl T.z_range (pa_cons (pe_op op_add pe_int (pe_op op_mod (pe_call (FnOk.mono (ok__law_cell_at T) (by decide)) hr rfl T.m__law_cell_at T.F__law_cell_at.kp T.b__law_cell_at .nil pass0 (pa_cons (pv 0) (pa_cons pe_int pa_nil))) pe_int)) pa_nil)) (pg_name (i:=3) sc__law_parts.nd rfl (Or.inr rfl)) (pss_cons (ps_set (i:=4) sc__law_parts.nd rfl (Or.inl rfl) (pe_call (FnOk.mono (ok__law_part T) (by decide)) hr rfl T.m__law_part T.F__law_part.kp T.b__law_part .nil pass0 (pa_cons (pe_lcomp rfl (blkok rfl (sub_cons rfl (sub_cons rfl sub_nil)) (fv_cons 0 "_law_script" (by decide) rfl (Or.inl rfl) (Or.inl rfl) ⟨_,rfl⟩ (fv_cons 3 "_law_k" (by decide) rfl (Or.inl rfl) (Or.inl rfl) ⟨_,rfl⟩ fv_nil))) (pi_range1 rfl T.z_range (pa_cons pe_int pa_nil)) (fun _ _ _ _=>(pe_call (FnOk.mono (ok__law_cell_at T) (by decide)) hr rfl T.m__law_cell_at T.F__law_cell_at.kp T.b__law_cell_at .nil pass0 (pa_cons (pv 1) (pa_cons (pe_op op_add (pe_op op_add pe_int (pe_op op_mul pe_int (pv 2))) (pv 0)) pa_nil))))) (pa_cons (pe_ix ix_list (pv 1) pe_int (fun _ _=>rfl)) pa_nil))))
  (pss_mid (ps_if (pt_cmpR op_eq (pe_ix ix_tup (pv 4) pe_int (fun _ _=>rfl)) pe_str (nomark _)) (pss_one (ps_set (i:=1) sc__law_parts.nd rfl (Or.inl rfl) (pe_op op_cat (pe_slice sl_list (pv 1) (po_some pe_int) po_none) (pe_lst (pa_cons pe_int pa_nil))))) pss_nil)
  (pss_one (ps_expr (pe_bm PySem.F.plainAttrs_list PySem.F.slot_list_append PySem.F.type_list_append mt_append (pv 2) (pa_cons (pv 4) pa_nil)))))))
  (pss_one (ps_ret (pv 2)))))),?_⟩
 dsimp only [a_seq]
 k_typeOf
 refine⟨by decide,fun L nL=>?_⟩
 k_units
 have u0:=same_upd nL (.lst [])
 refine⟨A,ns,0,rfl,u0.seq hA,_,rfl,by decide,by omega,by omega,?_⟩
 have i0:=Int.emod_nonneg (cell ns 0) (show (6:Int)≠0 by decide)
 have i6:=Int.emod_lt_of_pos (cell ns 0) (show (0:Int) < 6 by decide)
 obtain⟨N,hN,N1,N6⟩:∃N,(1+cell ns 0 % 6).toNat=N∧1<=N∧N<=6:=⟨_,rfl,by omega,by omega⟩
 rw [hN]
 obtain⟨Pv,hPv⟩:∃Pv:Nat->L2.St->Hp->Prop,∀i σ H',Pv i σ H'↔∃(rs:List Addr) (ps:List Prt) (M':Addr) (ms:List Int) (r3 r4:Option V),σ=[some (V.ref A),some (V.ref M'),some (V.ref L),r3,r4]∧H' L=some (.lst (rs.map V.ref))∧Pts H' rs ps∧(∀p∈ps,PrtOk p)∧ps.length=i∧H' M'=some (.lst (ms.map V.int))∧ms.length=6∧(∀x∈ms,x=3∨x=0)∧Same H H'∧M'≠L:=⟨_,fun _ _ _=>Iff.rfl⟩
 have nML:M≠L:=fun z=>by rw [z,nL] at hM;cases hM
 refine lp_range Pv ((hPv _ _ _).mpr ⟨[],[],M,[3,3,3,3,3,3],none,none,rfl,upd_same,⟨rfl,fun i r p e=>by simp at e⟩,fun p hp=>by simp at hp,rfl,u0 _ _ hM,rfl,fun x hx=>by simp at hx;exact .inl hx,u0,nML⟩) ?_ ?_
 ·intro i σ H1 hi hp
  obtain⟨rs,ps,M',ms,r3,r4,rfl,eL,hP,hO,lp,eM,l6,h30,s1,nML'⟩:=(hPv _ _ _).mp hp
  dsimp only [a_seq]
  k_typeOf
  refine⟨by decide,by decide,fun D nD=>?_⟩
  obtain⟨Pc,hPc⟩:∃Pc:Nat->Hp->Prop,∀j Hx,Pc j Hx↔Hx D=some (.lst (((List.range j).map fun j=>cell ns (1+3 * i+j)).map V.int))∧Same H1 Hx:=⟨_,fun _ _=>Iff.rfl⟩
  refine cl_range Pc ((hPc _ _).mpr ⟨upd_same,same_upd nD _⟩) ?_ ?_
  ·intro j Hx hj hc
   obtain⟨k1,k2⟩:=(hPc _ _).mp hc
   (iterate 3 (k_units;(try simp only [bst,Option.getD_some]));k_units)
   have e:(1:Int)+3 * (0+(i:Int))+(0+(j:Int))=((1+3 * i+j:Nat):Int):=by omega
   have hj3:j < 3:=hj
   refine⟨.inl ⟨by decide,by decide⟩,A,ns,1+3 * i+j,by rw [e],(s1.trans k2).seq hA,_,k1,by rw [List.length_map,List.length_map,List.length_range];exact small1000 (by omega),(hPc _ _).mpr ⟨?_,k2.more nD⟩⟩
   rw [upd_same,List.range_succ,List.map_append,List.map_append];rfl
  intro Hx hc
  obtain⟨k1,k2⟩:=(hPc _ _).mp hc
  obtain⟨m0,m1,m2,m3,m4,m5,rfl⟩:∃m0 m1 m2 m3 m4 m5,ms=[m0,m1,m2,m3,m4,m5]:=by
   match ms,l6 with
   | [m0,m1,m2,m3,m4,m5],_=>exact⟨m0,m1,m2,m3,m4,m5,rfl⟩
  refine⟨_,SqL.of (k2 _ _ eM),_,(show atI ([m0,m1,m2,m3,m4,m5].map V.int) ((0:Nat):Int)=some (V.int m0) from atI_nat rfl),D,_,_,_,m0,rfl,k1,h30 m0 (by simp),fun p hp r H2 s2 hr2=>?_⟩
  have s12:=k2.trans s2
  obtain⟨M2,hM2⟩:∃M2:L2.St->Hp->Prop,∀σ H',M2 σ H'↔∃(M'':Addr) (ms:List Int),σ=[some (V.ref A),some (V.ref M''),some (V.ref L),some (V.int (0+(i:Int))),some (V.ref r)]∧H' M''=some (.lst (ms.map V.int))∧ms.length=6∧(∀x∈ms,x=3∨x=0)∧Same H2 H'∧M''≠L:=⟨_,fun _ _=>Iff.rfl⟩
  refine mid_of M2 ?_ ?_
  ·obtain⟨sh,xs,er⟩:=hr2.head
   k_units
   refine⟨_,SqT.of er,_,(show atI (V.str sh :: xs) ((0:Nat):Int)=some (V.str sh) from atI_nat rfl),?_⟩
   k_units
   refine ite2 (fun _=>?_) (fun _=>(hM2 _ _).mpr ⟨M',_,rfl,s12 _ _ eM,l6,h30,Same.refl _,nML'⟩)
   have ec:cutV ([m0,m1,m2,m3,m4,m5].map V.int) (some 1) none=[m1,m2,m3,m4,m5].map V.int:=rfl
   refine⟨_,SqL.of (s12 _ _ eM),fun p1 n1=>⟨by decide,fun p2 n2=>?_⟩⟩
   rw [ec] at n2 ⊢
   have v1:=same_upd n1 (.lst ([m1,m2,m3,m4,m5].map V.int))
   have v2:=same_upd n2 (.lst [V.int 0])
   refine⟨_,v2 _ _ upd_same,_,upd_same,by show 5+1<=sizeLine;decide,fun p3 n3=>?_⟩
   have v3:=same_upd n3 (.lst ([m1,m2,m3,m4,m5].map V.int++[V.int 0]))
   have eLx:=(v1.trans v2) _ _ (s12 _ _ eL)
   exact (hM2 _ _).mpr ⟨p3,[m1,m2,m3,m4,m5,0],rfl,upd_same,rfl,fun x hx=>by
    simp only [List.mem_cons,List.not_mem_nil,or_false] at hx
    rcases hx with rfl | rfl | rfl | rfl | rfl | rfl
    ·exact h30 _ (by simp)
    ·exact h30 _ (by simp)
    ·exact h30 _ (by simp)
    ·exact h30 _ (by simp)
    ·exact h30 _ (by simp)
    ·exact .inr rfl,(v1.trans v2).trans v3,fun z=>by rw [z,eLx] at n3;cases n3⟩
  intro σ H3 hm
  obtain⟨M'',ms2,rfl,eM2,l62,h302,s3,nML2⟩:=(hM2 _ _).mp hm
  k_units
  have eL3:=s3 _ _ (s12 _ _ eL)
  have kt:∀a xs,H1 a=some (.tup xs)->L2.upd H3 L (.lst (rs.map V.ref++[V.ref r])) a=some (.tup xs):=fun a xs e=>by
   rw [upd_ne (ne_of e eL (fun z=>nomatch z))];exact s3 _ _ (s12 _ _ e)
  refine⟨a_tyL (SqL.of eL3),_,eL3,by rw [List.length_map,hP.len];exact small1000 (by omega),(hPv _ _ _).mpr ⟨rs++[r],ps++[p],M'',ms2,_,_,rfl,by rw [upd_same,List.map_append];rfl,?_,fun p' hp'=>?_,by simp [lp],by rw [upd_ne nML2];exact eM2,l62,h302,((s1.trans s12).trans s3).more nL,nML2⟩⟩
  ·refine (hP.kt kt).snoc (hr2.kt fun a xs e=>?_)
   rw [upd_ne (ne_of (s3 _ _ e) eL3 (fun z=>nomatch z))];exact s3 _ _ e
  ·rcases List.mem_append.mp hp' with z | z
   ·exact hO p' z
   ·rw [List.mem_singleton.mp z];exact hp
 ·intro σ H1 hp
  obtain⟨rs,ps,M',ms,r3,r4,rfl,eL,hP,hO,lp,eM,l6,h30,s1,nML'⟩:=(hPv _ _ _).mp hp
  k_units
  exact k L rs ps H1 s1 nL eL hP hO (by omega) (by omega)
def spLFT (K:W.Frag):Sp:=fun vs H Q _=>∃(p:Addr) (f:F3),vs=[.ref p]∧SqT K H p [.int f.1,.int f.2.1,.int f.2.2]∧FBd f 400∧newH H Q (.str (TX.S (shF f)))
theorem jn_nil:∀ws:List (List Nat),TX.jn [] ws=ws.flatten
 | []=>rfl
 | [p]=>by simp [TX.jn]
 | p :: q :: r=>by rw [jn_cons2,jn_nil (q :: r)];simp
def dTs (ws:List (List Nat)):List PyData:=ws.map fun w=>.str (TX.S w)
theorem dv_ts {K:W.Frag} {H:Hp}:∀ws:List (List Nat),DVs K H ((ws.map TX.S).map V.str) (dTs ws)
 | []=>.nil
 | w :: r=>.cons (.str _) (dv_ts r)
theorem ts_ok (ws:List (List Nat)) (hs:∀w∈ws,PyData.strOk (TX.S w)=true):(PyData.list (dTs ws)).canLay0=true∧(PyData.list (dTs ws)).depth<=64:=by
 have h:PyData.canLayAll0 (dTs ws)=true∧PyData.depthAll (dTs ws)<=60:=by
  induction ws with
  | nil=>exact⟨rfl,Nat.zero_le _⟩
  | cons w ws ih=>
   obtain⟨i1,i2⟩:=ih fun w hw=>hs w (.tail _ hw)
   refine⟨by simp only [dTs,List.map_cons,PyData.canLayAll0,PyData.canLay0,hs w (.head _),Bool.true_and];exact i1,?_⟩
   simp only [dTs,List.map_cons,PyData.depthAll,PyData.depth]
   simp only [dTs] at i2
   omega
 refine⟨by simp [PyData.canLay0,h.1],?_⟩
 simp only [PyData.depth]
 have:=h.2
 omega
theorem str_ok {w:List Nat} (h:∀c∈w,c < 128):PyData.strOk (TX.S w)=true:=by
 unfold PyData.strOk
 rw [Array.all_eq_true']
 intro c hc
 have:c∈w:=by simpa [TX.S] using hc
 have:=h c this
 exact decide_eq_true (by omega)
theorem ts_nil (ws:List (List Nat)):PyData.eqv (.list (dTs ws)) (.list [])=true↔ws=[]:=by
 cases ws with
 | nil=>exact⟨fun _=>rfl,fun _=>rfl⟩
 | cons w r=>exact⟨fun h=>by simp [dTs,PyData.eqv,PyData.eqvAll] at h,fun h=>nomatch h⟩
theorem abs_one {n:Int} (h:(if n < 0 then -n else n)=1):n=1∨n=-1:=by split at h <;> omega
theorem ok__law_form_text {P:Program} {w:World} {K:W.Frag} {mg:Str->Option Value} {base:Heap} (T:Tx K mg):FnOk P w K mg base CX0 1 T.a__law_form_text T.fd__law_form_text ["_law_form"] (spLFT K):=by
 refine T.F__law_form_text.ok sc__law_form_text (fun vs H Q E h=>?_) (fun cdv A outer s H vs Q E hr h=>?_)
 ·obtain⟨p,f,rfl,_⟩:=h
  rfl
 obtain⟨p,f,rfl,hp,bf,q⟩:=h
 refine⟨_,((pss_cons (ps_set (i:=1) sc__law_form_text.nd rfl (Or.inl rfl) (pe_lst pa_nil))
  (pss_cons (ps_for PassesOwn.never rfl (pi_range1 rfl T.z_range (pa_cons pe_int pa_nil)) (pg_name (i:=2) sc__law_form_text.nd rfl (Or.inl rfl)) (pss_cons (ps_set (i:=3) sc__law_form_text.nd rfl (Or.inl rfl) (pe_callTy call_str_int rfl T.z_str bt_str (pa_cons (pe_ix ix_tup (pv 0) (pv 2) (fun _ _=>rfl)) pa_nil)))
  (pss_mid (ps_if (PW.pt (pw_and (pt_cmpR op_lt (pv 2) pe_int (nomark _)) (pw_and (pt_cmpR op_eq (pe_slice sl_str (pv 3) (po_some (pe_un un_neg pe_int)) po_none) pe_str (nomark _)) (pw_and1 (pt_cmpR op_eq (pe_callB call_abs rfl T.z_abs bt_abs (pa_cons (pe_ix ix_tup (pv 0) (pv 2) (fun _ _=>rfl)) pa_nil)) pe_int (nomark _)))))) (pss_one (ps_set (i:=3) sc__law_form_text.nd rfl (Or.inl rfl) (pe_slice sl_str (pv 3) po_none (po_some (pe_un un_neg pe_int))))) pss_nil)
  (pss_mid (ps_if (PW.pt (pw_and (pt_cmpR op_gt (pe_ix ix_tup (pv 0) (pv 2) (fun _ _=>rfl)) pe_int (nomark _)) (pw_and1 (pt_cmpR op_gt (pe_callB call_len_seq rfl T.z_len bt_len (pa_cons (pv 1) pa_nil)) pe_int (nomark _))))) (pss_one (ps_set (i:=3) sc__law_form_text.nd rfl (Or.inl rfl) (pe_op op_catS pe_str (pv 3)))) pss_nil)
  (pss_one (ps_if (pt_cmpR op_ne (pe_ix ix_tup (pv 0) (pv 2) (fun _ _=>rfl)) pe_int (nomark _)) (pss_one (ps_expr (pe_bm PySem.F.plainAttrs_list PySem.F.slot_list_append PySem.F.type_list_append mt_append (pv 1) (pa_cons (pe_op op_catS (pv 3) (pe_ix ix_list (pe_lst (pa_cons pe_str (pa_cons pe_str (pa_cons pe_str pa_nil)))) (pv 2) (fun _ _=>rfl))) pa_nil)))) pss_nil))))))
  (pss_cons (ps_if (pt_cmpR (op_eqD hr.units) (pv 1) (pe_lst pa_nil) (nomark _)) (pss_one (ps_ret pe_str)) pss_nil)
  (pss_one (ps_ret (pe_bm PySem.F.plainAttrs_str PySem.F.slot_str_join PySem.F.type_str_join mt_join pe_str (pa_cons (pv 1) pa_nil)))))))),?_⟩
 dsimp only [a_seq]
 k_typeOf
 refine⟨by decide,fun L nL=>?_⟩
 dsimp only [a_seq]
 k_typeOf
 have hF:SqT K H p ([0,1,2].map fun i=>V.int (fat f i)):=hp
 obtain⟨Pv,hPv⟩:∃Pv:Nat->L2.St->Hp->Prop,∀i σ Hx,Pv i σ Hx↔∃(r2 r3:Option V) (ws:List (List Nat)),σ=[some (.ref p),some (.ref L),r2,r3]∧Hx L=some (.lst ((ws.map TX.S).map V.str))∧Same H Hx∧ws.flatten=upT f i∧(ws=[]↔upT f i=[])∧ws.length<=i∧∀w∈ws,w.length<=140:=⟨_,fun _ _ _=>Iff.rfl⟩
 refine⟨by decide,by decide,lp_range Pv ((hPv _ _ _).mpr ⟨_,_,[],rfl,upd_same,same_upd nL _,rfl,⟨fun _=>rfl,fun _=>rfl⟩,Nat.le_refl _,fun w hw=>(nomatch hw)⟩) ?_ ?_⟩
 ·intro i σ Hx hi z
  obtain⟨r2,r3,ws,rfl,kL,sH,ef,ee,lw,bw⟩:=(hPv _ _ _).mp z
  have i3:i < 3:=hi
  clear z
  have hF1:SqT K Hx p ([0,1,2].map fun i=>V.int (fat f i)):=Same.seqT sH hF
  have hat:atI ([0,1,2].map fun i=>V.int (fat f i)) (0+(i:Int))=some (V.int (fat f i)):=by
   match i,i3 with
   | 0,_=>rfl
   | 1,_=>rfl
   | 2,_=>rfl
  have bn:=fat_bd bf i
  have us:upT f (i+1)=stepT (upT f i) (fat f i) (Ltr i):=rfl
  generalize fat f i=n at hat bn us
  k_units
  refine⟨_,hF1,_,hat,_,rfl,log_of bn (by decide) (by decide),?_⟩
  rw [TX.toS]
  have lsh:=sh_len bn
  obtain⟨M1,hM1⟩:∃M1:L2.St->Hp->Prop,∀σ Hy,M1 σ Hy↔∃w1:List Nat,σ=[some (.ref p),some (.ref L),some (.int (0+(i:Int))),some (.str (TX.S w1))]∧Hy=Hx∧w1.length<=122∧(n≠0->w1++Ltr i=cntT n (Ltr i)):=⟨_,fun _ _=>Iff.rfl⟩
  refine mid_of M1 ?_ ?_
  ·k_units
   have lS:(TX.S (TX.shI n)).length<=100000:=by rw [TX.S_len];omega
   have fin:¬((i:Int) < 2∧(n=1∨n=-1))->M1 [some (V.ref p),some (V.ref L),some (V.int (0+↑i)),some (V.str (TX.S (TX.shI n)))] Hx:=fun hn=>(hM1 _ _).mpr ⟨_,rfl,rfl,lsh,fun n0=>by
    unfold cntT
    by_cases i2:i=2
    ·rw [i2];rw [if_pos (.inl rfl)]
    ·rw [if_pos (.inr (by omega))]⟩
   have one:∀m:Int,(m=1∨m=-1)->Txt.slice (TX.S (TX.shI m)) (some (-1)) none=Str.ofString "1" := fun m hm=>by
    rcases hm with rfl | rfl
    ·rw [show TX.shI 1=[49] by decide +kernel];decide +kernel
    ·rw [show TX.shI (-1)=[45,49] by decide +kernel];decide +kernel
   refine ite2 (fun h2=>⟨lS,ite2 (fun h1=>⟨_,hF1,_,hat,_,rfl,ite2 (fun ha=>⟨lS,?_⟩) (fun ha=>fin fun z=>ha ?_)⟩) (fun h1=>fin fun z=>h1 (one n z.2))⟩) (fun h2=>fin fun z=>h2 (by omega))
   ·refine (hM1 _ _).mpr ?_
    have lt0:Ltr i≠[]:=by
     match i,i3,h2 with
     | 0,_,_=>decide
     | 1,_,_=>decide
    rcases abs_one ha with rfl | rfl
    ·refine⟨[],?_,rfl,by simp,fun _=>?_⟩
     ·rw [show TX.shI 1=[49] by decide +kernel,TX.slice_S];rfl
     ·unfold cntT;rw [if_neg (by simp [lt0]),if_pos (by decide)];rfl
    ·refine⟨[45],?_,rfl,by simp,fun _=>?_⟩
     ·rw [show TX.shI (-1)=[45,49] by decide +kernel,TX.slice_S];rfl
     ·unfold cntT;rw [if_neg (by simp [lt0]),if_neg (by decide)];rfl
   ·rcases z.2 with rfl | rfl <;> rfl
  intro σ Hy hm
  obtain⟨w1,rfl,rfl,l1,e1⟩:=(hM1 _ _).mp hm
  clear hm hM1 M1
  obtain⟨M2,hM2⟩:∃M2:L2.St->Hp->Prop,∀σ Hx,M2 σ Hx↔∃w2:List Nat,σ=[some (.ref p),some (.ref L),some (.int (0+(i:Int))),some (.str (TX.S w2))]∧Hx=Hy∧w2.length<=123∧(n≠0->w2++Ltr i=(if 0 < n∧upT f i≠[] then [43] else [])++cntT n (Ltr i)):=⟨_,fun _ _=>Iff.rfl⟩
  refine mid_of M2 ?_ ?_
  ·k_units
   have wl:0 < (((ws.map TX.S).map V.str).length:Int)↔upT f i≠[]:=by
    rw [List.length_map,List.length_map]
    refine⟨fun h e=>?_,fun h=>?_⟩
    ·rw [ee.mpr e] at h;simp at h
    ·have:=List.length_pos_iff.mpr (fun z=>h (ee.mp z));omega
   refine⟨_,hF1,_,hat,_,rfl,ite2 (fun h=>⟨_,.inl (SqL.of kL),ite2 (fun h2=>⟨?_,?_⟩) (fun h2=>?_)⟩) (fun h=>?_)⟩
   ·rw [l_pl,TX.S_len,TX.S_len];exact sl_of (by simp;omega)
   ·rw [l_pl,TX.S_app]
    refine (hM2 _ _).mpr ⟨_,rfl,rfl,by simp;omega,fun n0=>?_⟩
    rw [if_pos ⟨h,wl.mp h2⟩,List.append_assoc,e1 n0]
   ·refine (hM2 _ _).mpr ⟨_,rfl,rfl,by omega,fun n0=>?_⟩
    rw [if_neg (fun z=>h2 (wl.mpr z.2)),e1 n0];rfl
   ·refine (hM2 _ _).mpr ⟨_,rfl,rfl,by omega,fun n0=>?_⟩
    rw [if_neg (fun z=>h z.1),e1 n0];rfl
  intro σ Hx hm
  obtain⟨w2,rfl,rfl,l2,e2⟩:=(hM2 _ _).mp hm
  clear hm hM2 M2
  k_units
  refine⟨_,hF1,_,hat,?_⟩
  rw [a_neI]
  refine⟨_,rfl,ite2 (fun h=>?_) (fun h=>?_)⟩
  ·have n0:n≠0:=fun z=>by rw [z] at h;cases h
   refine⟨a_tyL (SqL.of kL),by decide,fun B nB=>⟨_,SqL.of upd_same,.str (TX.S (Ltr i)),?_,_,rfl,?_,_,same_upd nB _ _ _ kL,?_,?_⟩⟩
   ·match i,i3 with
    | 0,_=>rfl
    | 1,_=>rfl
    | 2,_=>rfl
   ·have:=ltr_len i
    rw [TX.S_len,TX.S_len];exact sl_of (by omega)
   ·rw [List.length_map,List.length_map];exact small1000 (by omega)
   ·rw [TX.S_app,e2 n0]
    refine (hPv _ _ _).mpr ⟨_,_,ws++[(if 0 < n∧upT f i≠[] then [43] else [])++cntT n (Ltr i)],rfl,by rw [upd_same];simp,(sH.trans (same_upd nB _)).more nL,?_,?_,by simp;omega,fun w hw=>?_⟩
    ·rw [us];unfold stepT;rw [if_neg n0,List.flatten_append,ef];simp
    ·have c0:=cnt_nn i (.inl n0:n≠0∨i=2)
     rw [us];unfold stepT;rw [if_neg n0]
     exact⟨fun z=>by simp at z,fun z=>by simp [c0] at z⟩
    ·rcases List.mem_append.mp hw with hw | hw
     ·exact bw w hw
     ·rw [List.mem_singleton.mp hw,← e2 n0]
      have:=ltr_len i
      simp;omega
  ·have n0:n=0:=Classical.byContradiction fun z=>h (by rw [decide_eq_false z];rfl)
   refine (hPv _ _ _).mpr ⟨_,_,ws,rfl,kL,sH,?_,?_,by omega,bw⟩
   ·rw [us];unfold stepT;rw [if_pos n0];exact ef
   ·rw [us];unfold stepT;rw [if_pos n0];exact ee
 intro σ Hx z
 obtain⟨r2,r3,ws,rfl,kL,sH,ef,ee,lw,bw⟩:=(hPv _ _ _).mp z
 k_units
 obtain⟨c1,c2⟩:=ts_ok ws fun w hw=>str_ok fun c hc=>by
  have h1:c∈allT f:=by rw [← show ws.flatten=allT f from ef];exact List.mem_flatten.mpr ⟨w,hw,hc⟩
  have h2:c∈shF f:=by unfold shF;rw [if_neg (fun z=>by rw [z] at h1;cases h1)];exact h1
  have:=sh_44 h2
  omega
 refine⟨by decide,fun B nB=>⟨_,.lst (SqL.of (same_upd nB _ _ _ kL)) (dv_ts ws),_,.lst (SqL.of upd_same) .nil,c1,rfl,c2,?_⟩⟩
 have q':=q _ (sH.trans (same_upd nB (.lst [])))
 have e3:ws.flatten=allT f:=ef
 unfold shF at q'
 refine ite2 (fun h=>?_) (fun h=>⟨_,SqL.of (same_upd nB _ _ _ kL),?_,?_⟩)
 ·rw [if_pos (by rw [← e3,(ts_nil ws).mp h];rfl)] at q'
  rw [l_0];exact q'
 ·have:=StrLaws.sumLen_le (B:=140) (ws.map TX.S) fun y hy=>by
   obtain⟨w,hw,rfl⟩:=List.mem_map.mp hy
   rw [TX.S_len];exact bw w hw
  have lw':ws.length<=3:=lw
  rw [List.length_map] at this ⊢
  rw [l_e,TX.S_len]
  have e:([]:List Nat).length=0:=rfl
  rw [e]
  omega
 ·rw [if_neg (fun z:allT f=[]=>h ((ts_nil ws).mpr (ee.mpr z)))] at q'
  rw [l_e,TX.join_S,jn_nil,e3]
  exact q'
theorem cl_tupV {K:W.Frag} {a:Addr} {xs zs:List V} {fv:List (Nat×Str)} {te:TE} {Q:VK} {σ:L2.St} {H1:Hp} {D:Addr} (nD:H1 D=none) (hA:SqT K H1 a xs) (hd:zs.length=xs.length) (hl:zs.length<=900)
  (hs:∀(i:Nat) (v z:V) (Hx:Hp) (R:VK),xs[i]?=some v->zs[i]?=some z->Same H1 Hx->(∀H',Same Hx H'->R z H')->te (bst fv σ (some v)) Hx R) (he:newL H1 Q zs):CLoop (Itt K a) fv te Q σ H1 D:=by
 refine⟨fun i m Hx=>m=xs.length - i∧i<=xs.length∧Hx D=some (.lst (zs.take i))∧Same H1 Hx,⟨_,rfl,Nat.zero_le _,upd_same,same_upd nD _⟩,?_⟩
 rintro i m Hx ⟨rfl,hi,k1,k3⟩
 have q:=Same.seqT k3 hA
 by_cases hlt:i < xs.length
 ·refine .inr ⟨⟨xs,xs[i],q,by simp [hlt]⟩,fun H'=>i+1<=xs.length∧H' D=some (.lst (zs.take (i+1)))∧Same H1 H',fun H' p=>⟨xs.length - (i+1),by omega,rfl,p⟩,fun v H' y=>?_⟩
  obtain⟨e,y⟩:=y
  subst e
  refine hs i v _ _ _ (y xs q) (List.getElem?_eq_getElem (show i < zs.length by omega)) k3 fun H2 s2=>?_
  refine⟨_,s2 _ _ k1,by rw [List.length_take];exact small1000 (by omega),by omega,?_,(k3.trans s2).more nD⟩
  rw [upd_same,← List.take_append_getElem (show i < zs.length by omega)]
 ·have e:i=xs.length:=by omega
  subst e
  rw [← hd,List.take_length] at k1
  exact .inl ⟨⟨xs,q,Nat.le_refl _⟩,he D Hx k3 nD k1⟩
def spLRT (K:W.Frag):Sp:=fun vs H Q _=>∃(p:Addr) (f:Int×Int),vs=[.ref p]∧SqT K H p [.int f.1,.int f.2]∧f.1.natAbs < 2 ^ 400∧f.2.natAbs < 2 ^ 400∧1<=f.2∧newH H Q (.str (TX.S (shR f)))
theorem ok__law_ratio_text {P:Program} {w:World} {K:W.Frag} {mg:Str->Option Value} {base:Heap} (T:Tx K mg):FnOk P w K mg base CX0 1 T.a__law_ratio_text T.fd__law_ratio_text ["_law_fraction"] (spLRT K):=by
 refine T.F__law_ratio_text.ok sc__law_ratio_text (fun vs H Q E h=>?_) (fun cdv A outer s H vs Q E hr h=>?_)
 ·obtain⟨p,f,rfl,_⟩:=h
  rfl
 obtain⟨p,f,rfl,hp,b1,b2,f1,q⟩:=h
 refine⟨_,((pss_one (ps_ret (pe_bm PySem.F.plainAttrs_str PySem.F.slot_str_join PySem.F.type_str_join mt_join pe_str (pa_cons (pe_slice sl_list (pe_lcomp rfl (blkok rfl sub_nil fv_nil) (pi_tup (pv 0)) (fun _ _ _ _=>(pe_callTy call_str_int rfl T.z_str bt_str (pa_cons (pv 0) pa_nil)))) po_none (po_some (pe_op op_add pe_int (pe_callTy call_int1 rfl T.z_int bt_int (pa_cons (pe_cmpR op_gt (pe_ix ix_tup (pv 0) pe_int (fun _ _=>rfl)) pe_int (nomark _)) pa_nil))))) pa_nil))))),?_⟩
 dsimp only [a_seq]
 k_typeOf
 refine⟨⟨_,hp⟩,fun D nD=>?_⟩
 have l1:=sh_len b1
 have l2:=sh_len b2
 refine cl_tupV (xs:=[V.int f.1,V.int f.2]) (zs:=[.str (TX.S (TX.shI f.1)),.str (TX.S (TX.shI f.2))]) nD hp rfl (by simp) (fun i v z Hx R hv hz sx hR=>?_) fun D' H2 s2 nD' eD'=>?_
 ·have go:∀n:Int,n.natAbs < 2 ^ 400->v=.int n->z=.str (TX.S (TX.shI n))->tCB (fun xs H Q=>∃i,xs=[V.int i]∧i.natAbs.log2 < 1920∧Q (V.str (Str.ofString (toString i))) H) (tCons (tVar 0) tNil) (bst [] (some (V.ref p) :: List.replicate (0+1 - (0+1)) none) (some v)) Hx R:=fun n bn ev ez=>by
   subst ev ez
   (iterate 3 (k_units;(try simp only [bst]));k_units)
   refine⟨log_of bn (by decide) (by decide),?_⟩
   rw [TX.toS]
   exact hR _ (Same.refl _)
  match i,hv,hz with
  | 0,hv,hz=>exact go f.1 b1 (Option.some.inj hv).symm (Option.some.inj hz).symm
  | 1,hv,hz=>exact go f.2 b2 (Option.some.inj hv).symm (Option.some.inj hz).symm
 refine⟨_,Same.seqT s2 hp,_,rfl,_,rfl,.inr ⟨D',rfl,_,SqL.of eD',fun B nB=>?_⟩⟩
 have q':=q _ (s2.trans (same_upd nB (.lst (cutV [.str (TX.S (TX.shI f.1)),.str (TX.S (TX.shI f.2))] none (some (1+if 1 < f.2 then 1 else 0))))))
 unfold shR at q'
 by_cases z:f.2=1
 ·rw [if_pos z] at q'
  rw [if_neg (by omega)] at q' ⊢
  have ec:cutV [.str (TX.S (TX.shI f.1)),.str (TX.S (TX.shI f.2))] none (some (1+0))=[V.str (TX.S (TX.shI f.1))]:=rfl
  rw [ec] at q' ⊢
  refine⟨[TX.S (TX.shI f.1)],SqL.of upd_same,?_,?_⟩
  ·simp [TX.S_len,l_sl];omega
  ·rw [l_sl,show [TX.S (TX.shI f.1)]=[TX.shI f.1].map TX.S from rfl,TX.join_S]
   exact q'
 ·rw [if_neg z] at q'
  rw [if_pos (by omega)] at q' ⊢
  have ec:cutV [.str (TX.S (TX.shI f.1)),.str (TX.S (TX.shI f.2))] none (some (1+1))=[V.str (TX.S (TX.shI f.1)),V.str (TX.S (TX.shI f.2))]:=rfl
  rw [ec] at q' ⊢
  refine⟨[TX.S (TX.shI f.1),TX.S (TX.shI f.2)],SqL.of upd_same,?_,?_⟩
  ·simp [TX.S_len,l_sl];omega
  ·rw [l_sl,show [TX.S (TX.shI f.1),TX.S (TX.shI f.2)]=[TX.shI f.1,TX.shI f.2].map TX.S from rfl,TX.join_S]
   simpa [TX.jn] using q'
def prF:Prt->Prop
 | .pow f=>1<=f.2
 | .gro f=>1<=f.2
 | _=>True
def spLPT (K:W.Frag):Sp:=fun vs H Q _=>∃(r:Addr) (p:Prt),vs=[.ref r]∧PtAt H r p∧PrB p∧prF p∧newH H Q (.str (TX.S (prT p)))
theorem w_pg:decide (Str.ofString "power" = Str.ofString "growth")=false:=by decide +kernel
theorem w_gg:decide (Str.ofString "growth" = Str.ofString "growth")=true:=by decide +kernel
theorem ok__law_part_text {P:Program} {w:World} {K:W.Frag} {mg:Str->Option Value} {base:Heap} (T:Tx K mg):FnOk P w K mg base CX0 3 T.a__law_part_text T.fd__law_part_text ["_law_part_here"] (spLPT K):=by
 refine T.F__law_part_text.ok sc__law_part_text (fun vs H Q E h=>?_) (fun cdv A outer s H vs Q E hr h=>?_)
 ·obtain⟨r,p,rfl,_⟩:=h
  rfl
 obtain⟨r,p,rfl,hp,bp,fp,q⟩:=h
 refine⟨_,((pss_cons (ps_if (pt_cmpR op_eq (pe_ix ix_tup (pv 0) pe_int (fun _ _=>rfl)) pe_str (nomark _)) (pss_one (ps_ret (pe_op op_catS (pe_op op_catS pe_str (pe_bm PySem.F.plainAttrs_str PySem.F.slot_str_join PySem.F.type_str_join mt_join pe_str (pa_cons (pe_lst (pa_cons (pe_call (FnOk.mono (ok__law_form_text T) (by decide)) hr rfl T.m__law_form_text T.F__law_form_text.kp T.b__law_form_text .nil pass0 (pa_cons (pe_ix ix_tup (pv 0) pe_int (fun _ _=>rfl)) pa_nil)) (pa_cons (pe_call (FnOk.mono (ok__law_form_text T) (by decide)) hr rfl T.m__law_form_text T.F__law_form_text.kp T.b__law_form_text .nil pass0 (pa_cons (pe_ix ix_tup (pv 0) pe_int (fun _ _=>rfl)) pa_nil)) pa_nil))) pa_nil))) pe_str))) pss_nil)
  (pss_cons (ps_if (pt_cmpR op_eq (pe_ix ix_tup (pv 0) pe_int (fun _ _=>rfl)) pe_str (nomark _)) (pss_one (ps_ret (pe_op op_catS (pe_op op_catS pe_str (pe_call (FnOk.mono (ok__law_form_text T) (by decide)) hr rfl T.m__law_form_text T.F__law_form_text.kp T.b__law_form_text .nil pass0 (pa_cons (pe_ix ix_tup (pv 0) pe_int (fun _ _=>rfl)) pa_nil))) pe_str))) pss_nil)
  (pss_one (ps_ret (pe_op op_catS (pe_op op_catS pe_str (pe_call (FnOk.mono (ok__law_ratio_text T) (by decide)) hr rfl T.m__law_ratio_text T.F__law_ratio_text.kp T.b__law_ratio_text .nil pass0 (pa_cons (pe_ix ix_tup (pv 0) pe_int (fun _ _=>rfl)) pa_nil))) (pe_ix ix_list (pe_lst (pa_cons pe_str (pa_cons pe_str pa_nil))) (pe_callTy call_int1 rfl T.z_int bt_int (pa_cons (pe_cmpR op_eq (pe_ix ix_tup (pv 0) pe_int (fun _ _=>rfl)) pe_str (nomark _)) pa_nil)) (fun _ _=>rfl)))))))),?_⟩
 match p with
 | .cho h l=>
  obtain⟨a,b,hr1,ha,hb⟩:=hp
  obtain⟨bh,bl⟩:=bp
  have l1:=shF_len bh
  have l2:=shF_len bl
  dsimp only [a_seq]
  k_typeOf
  refine⟨_,SqT.of hr1,_,rfl,?_⟩
  rw [a_eqS]
  refine⟨_,rfl,?_⟩
  rw [if_pos (by decide +kernel)]
  refine⟨_,SqT.of hr1,_,rfl,a,h,rfl,SqT.of ha,bh,fun H1 s1=>⟨_,SqT.of (s1 _ _ hr1),_,rfl,b,l,rfl,SqT.of (s1 _ _ hb),bl,fun H2 s2=>⟨by decide,fun B nB=>⟨[TX.S (shF h),TX.S (shF l)],SqL.of upd_same,?_⟩⟩⟩⟩
  rw [show [TX.S (shF h),TX.S (shF l)]=[shF h,shF l].map TX.S from rfl,l_cs,TX.join_S,l_C,l_cl,TX.S_app,TX.S_app]
  have e:[67,40]++TX.jn [44,32] [shF h,shF l]++[41]=prT (.cho h l):=by rw [prT_c,List.append_assoc]
  have ll:(TX.jn [44,32] [shF h,shF l]).length<=5000:=by simp [TX.jn];omega
  rw [e]
  refine⟨?_,?_,?_,q _ ((s1.trans s2).trans (same_upd nB _))⟩
  ·simp [TX.S_len];omega
  ·rw [TX.S_len,TX.S_len];exact sl_of (by simp;omega)
  ·rw [TX.S_len,TX.S_len,List.length_append];exact sl_of (by simp;omega)
 | .wei f=>
  obtain⟨a,hr1,ha⟩:=hp
  have l1:=shF_len bp
  dsimp only [a_seq]
  k_typeOf
  refine⟨_,SqT.of hr1,_,rfl,?_⟩
  rw [a_eqS,w_wc]
  refine⟨_,rfl,?_⟩
  rw [if_neg (by decide)]
  dsimp only [a_seq]
  k_typeOf
  refine⟨_,SqT.of hr1,_,rfl,?_⟩
  rw [a_eqS,w_ww]
  refine⟨_,rfl,?_⟩
  rw [if_pos rfl]
  refine⟨_,SqT.of hr1,_,rfl,a,f,rfl,SqT.of ha,bp,fun H1 s1=>⟨_,rfl,?_,?_,?_⟩⟩
  ·rw [l_op,TX.S_len,TX.S_len];exact sl_of (by simp;omega)
  ·rw [l_op,l_cl,TX.S_app,TX.S_len,TX.S_len];exact sl_of (by simp;omega)
  ·rw [l_op,l_cl,TX.S_app,TX.S_app]
   have:=q _ s1
   simpa [prT] using this
 | .pow f=>
  obtain⟨a,hr1,ha⟩:=hp
  obtain⟨b1,b2⟩:=bp
  have l1:=shR_len b1 b2
  dsimp only [a_seq]
  k_typeOf
  refine⟨_,SqT.of hr1,_,rfl,?_⟩
  rw [a_eqS,w_pc]
  refine⟨_,rfl,?_⟩
  rw [if_neg (by decide)]
  dsimp only [a_seq]
  k_typeOf
  refine⟨_,SqT.of hr1,_,rfl,?_⟩
  rw [a_eqS,w_pw]
  refine⟨_,rfl,?_⟩
  rw [if_neg (by decide)]
  refine⟨_,SqT.of hr1,_,rfl,a,f,rfl,SqT.of ha,b1,b2,fp,fun H1 s1=>⟨_,rfl,?_,by decide,fun B nB=>⟨_,SqT.of (same_upd nB _ _ _ (s1 _ _ hr1)),_,rfl,?_⟩⟩⟩
  ·rw [l_sq,TX.S_len,TX.S_len];exact sl_of (by simp;omega)
  rw [a_eqS,w_pg]
  refine .inr ⟨_,rfl,_,SqL.of upd_same,_,rfl,_,rfl,?_⟩
  rw [l_sq,l_upk,TX.S_app,TX.S_app]
  refine⟨?_,?_⟩
  ·rw [TX.S_len,TX.S_len];exact sl_of (by simp;omega)
  ·have:=q _ (s1.trans (same_upd nB (.lst [V.str (Str.ofString "]^k"),V.str (Str.ofString "]^n")])))
   rw [l_upk] at this
   simpa [prT] using this
 | .gro f=>
  obtain⟨a,hr1,ha⟩:=hp
  obtain⟨b1,b2⟩:=bp
  have l1:=shR_len b1 b2
  dsimp only [a_seq]
  k_typeOf
  refine⟨_,SqT.of hr1,_,rfl,?_⟩
  rw [a_eqS,w_gc]
  refine⟨_,rfl,?_⟩
  rw [if_neg (by decide)]
  dsimp only [a_seq]
  k_typeOf
  refine⟨_,SqT.of hr1,_,rfl,?_⟩
  rw [a_eqS,w_gw]
  refine⟨_,rfl,?_⟩
  rw [if_neg (by decide)]
  refine⟨_,SqT.of hr1,_,rfl,a,f,rfl,SqT.of ha,b1,b2,fp,fun H1 s1=>⟨_,rfl,?_,by decide,fun B nB=>⟨_,SqT.of (same_upd nB _ _ _ (s1 _ _ hr1)),_,rfl,?_⟩⟩⟩
  ·rw [l_sq,TX.S_len,TX.S_len];exact sl_of (by simp;omega)
  rw [a_eqS,w_gg]
  refine .inr ⟨_,rfl,_,SqL.of upd_same,_,rfl,_,rfl,?_⟩
  rw [l_sq,l_upn,TX.S_app,TX.S_app]
  refine⟨?_,?_⟩
  ·rw [TX.S_len,TX.S_len];exact sl_of (by simp;omega)
  ·have:=q _ (s1.trans (same_upd nB (.lst [V.str (Str.ofString "]^k"),V.str (Str.ofString "]^n")])))
   rw [l_upn] at this
   simpa [prT] using this
def d3 (f:Int×Int×Int):PyData:=.tuple [.int f.1,.int f.2.1,.int f.2.2]
def d2 (f:Int×Int):PyData:=.tuple [.int f.1,.int f.2]
def dPt:Prt->PyData
 | .cho h l=>.tuple [.str (Str.ofString "choose"),d3 h,d3 l]
 | .wei f=>.tuple [.str (Str.ofString "weight"),d3 f]
 | .pow f=>.tuple [.str (Str.ofString "power"),d2 f]
 | .gro f=>.tuple [.str (Str.ofString "growth"),d2 f]
def dPts (ps:List Prt):PyData:=.list (ps.map dPt)
theorem dv3 {K:W.Frag} {H:Hp} {a:Addr} {f:Int×Int×Int} (h:H a=some (T3 f)):DV K H (.ref a) (d3 f):=.tup (SqT.of h) (.cons (.int _) (.cons (.int _) (.cons (.int _) .nil)))
theorem dv2 {K:W.Frag} {H:Hp} {a:Addr} {f:Int×Int} (h:H a=some (T2 f)):DV K H (.ref a) (d2 f):=.tup (SqT.of h) (.cons (.int _) (.cons (.int _) .nil))
theorem dv_pt {K:W.Frag} {H:Hp} {r:Addr} {p:Prt} (h:PtAt H r p):DV K H (.ref r) (dPt p):=by
 match p,h with
 | .cho f l,⟨a,b,h1,h2,h3⟩=>exact .tup (SqT.of h1) (.cons (.str _) (.cons (dv3 h2) (.cons (dv3 h3) .nil)))
 | .wei f,⟨a,h1,h2⟩=>exact .tup (SqT.of h1) (.cons (.str _) (.cons (dv3 h2) .nil))
 | .pow f,⟨a,h1,h2⟩=>exact .tup (SqT.of h1) (.cons (.str _) (.cons (dv2 h2) .nil))
 | .gro f,⟨a,h1,h2⟩=>exact .tup (SqT.of h1) (.cons (.str _) (.cons (dv2 h2) .nil))
theorem dvs_pts {K:W.Frag} {H:Hp}:∀(rs:List Addr) (ps:List Prt),Pts H rs ps->DVs K H (rs.map V.ref) (ps.map dPt)
 | [],[],_=>.nil
 | r :: rs,p :: ps,h=>.cons (dv_pt (h.get 0 r p rfl rfl)) (dvs_pts rs ps ⟨by have:=h.len;simpa using this,fun i r p e1 e2=>h.get (i+1) r p e1 e2⟩)
 | [],_ :: _,h=>by have:=h.len;simp at this
 | _ :: _,[],h=>by have:=h.len;simp at this
theorem dv_pts {K:W.Frag} {H:Hp} {B:Addr} {rs:List Addr} {ps:List Prt} (e:SqL K H B (rs.map V.ref)) (h:Pts H rs ps):DV K H (.ref B) (dPts ps):=.lst e (dvs_pts rs ps h)
theorem pt_ok (p:Prt):(dPt p).canLay0=true∧(dPt p).depth<=60∧PyData.eqv (dPt p) (dPt p)=true:=by
 cases p <;> simp [dPt,d3,d2,PyData.canLay0,PyData.canLayAll0,PyData.depth,PyData.depthAll,PyData.eqv,PyData.eqvAll] <;> decide +kernel
theorem pts_ok (ps:List Prt):(dPts ps).canLay0=true∧(dPts ps).depth<=64∧PyData.eqv (dPts ps) (dPts ps)=true:=by
 have h:PyData.canLayAll0 (ps.map dPt)=true∧PyData.depthAll (ps.map dPt)<=60∧PyData.eqvAll (ps.map dPt) (ps.map dPt)=true:=by
  induction ps with
  | nil=>exact⟨rfl,Nat.zero_le _,rfl⟩
  | cons p ps ih=>
   obtain⟨a,b,c⟩:=pt_ok p
   obtain⟨i1,i2,i3⟩:=ih
   refine⟨by simp [PyData.canLayAll0,a,i1],?_,by simp [PyData.eqvAll,c,i3]⟩
   simp only [List.map_cons,PyData.depthAll];omega
 obtain⟨h1,h2,h3⟩:=h
 unfold dPts
 refine⟨by simp [PyData.canLay0,h1],?_,by simp [PyData.eqv,h3]⟩
 simp only [PyData.depth];omega
def PsOk (t:List Nat) (ps:List Prt):Prop:=1<=ps.length∧ps.length<=6∧(∀p∈ps,prN p∧PrtOk p)∧t=trT ps∧t.length<=3000
def spLRd (K:W.Frag):Sp:=fun vs H Q _=>∃(t:List Nat) (B:Addr) (rs:List Addr) (ps:List Prt),vs=[.str (TX.S t),.ref B]∧SqL K H B (rs.map V.ref)∧Pts H rs ps∧PsOk t ps∧newH H Q (.bl true)
theorem ok__law_read {P:Program} {w:World} {K:W.Frag} {mg:Str->Option Value} {base:Heap} (T:Tx K mg):FnOk P w K mg base CX0 9 T.a__law_read T.fd__law_read ["_law_line","_law_parts_here"] (spLRd K):=by
 refine T.F__law_read.ok sc__law_read (fun vs H Q E h=>?_) (fun cdv A outer s H vs Q E hr h=>?_)
 ·obtain⟨t,B,rs,ps,rfl,_⟩:=h
  rfl
 obtain⟨t,B,rs,ps,rfl,hB,hP,⟨l1,l6,ok,et,lt⟩,q⟩:=h
 refine⟨_,((pss_cons (ps_set (i:=2) sc__law_read.nd rfl (Or.inl rfl) (pe_call (FnOk.mono (ok_read_term T) (by decide)) hr rfl T.m_read_term T.F_read_term.kp T.b_read_term .nil passF (pa_cons (pv 0) pa_nil)))
  (pss_cons (ps_if (pt_not (pt_val (pe_callB call_isinstC rfl T.z_isinstance bt_isinstance (pa_cons (pv 2) (pa_cons (pe_glob (v:=.ref T.c_Term) rfl T.mc_Term rfl) pa_nil))))) (pss_one (ps_ret pe_bl)) pss_nil)
  (pss_cons (ps_set (i:=3) sc__law_read.nd rfl (Or.inl rfl) (pe_meth0 (pv 2) T.cl_Term T.me_Term_told (FnOk.mono (ok_Term_told T) (by decide)) hr T.b_Term_told .nil pass0))
  (pss_cons (ps_if (PW.pt (pw_or (pt_not (pt_val (pe_callB call_isinst rfl T.z_isinstance bt_isinstance (pa_cons (pv 3) (pa_cons (pe_bltn (v:=.ty "list") rfl T.z_list bt_list rfl) pa_nil))))) (pw_or1 (pt_cmpR (op_neD hr.units) (pv 3) (pv 1) (nomark _))))) (pss_one (ps_ret pe_bl)) pss_nil)
  (pss_cons (ps_expr (pe_bm0 PySem.F.plainAttrs_list PySem.F.slot_list_clear PySem.F.type_list_clear mt_clear (pv 3)))
  (pss_one (ps_ret (pe_cmpR (op_eqD hr.units) (pe_meth0 (pv 2) T.cl_Term T.me_Term_told (FnOk.mono (ok_Term_told T) (by decide)) hr T.b_Term_told .nil pass0) (pv 1) (nomark _)))))))))),?_⟩
 dsimp only [a_seq]
 k_typeOf
 refine⟨t,rfl,lt,.inl ⟨ps,l1,l6,ok,et,fun x H0 H1 rs1 s0 s1 hx hP1=>?_⟩⟩
 obtain⟨dx,Q1,Q2,qs2,h1,h2⟩:=id hx
 dsimp only [a_seq]
 k_typeOf
 refine⟨_,T.oc_Term.ty T.cl_Term h1,true,T.ki_Term_Term,?_⟩
 rw [if_neg (by decide)]
 have dv:∀(H':Hp) (B':Addr),Same H1 H'->H' B'=some (.lst (rs1.map V.ref))->DV K H' (.ref B') (dPts ps):=fun H' B' w e=>dv_pts (SqL.of e) (hP1.on w)
 have dw:∀(H':Hp),Same H1 H'->DV K H' (.ref B) (dPts ps):=fun H' w=>dv_pts ((s1.trans w).seq hB) (hP.on (s1.trans w))
 obtain⟨y1,y2,y3⟩:=pts_ok ps
 dsimp only [a_seq]
 k_typeOf
 refine⟨dx,_,h1,rfl,x,H0,rs1,ps,rfl,hx,fun R H8 w8 nR eR=>?_⟩
 dsimp only [a_seq]
 k_typeOf
 refine⟨_,.lst eR,true,rfl,?_⟩
 rw [if_neg (by decide)]
 refine⟨_,dv H8 R w8 eR,_,dw H8 w8,y1,y1,y2,?_⟩
 rw [y3,if_neg (by decide)]
 dsimp only [a_seq]
 k_typeOf
 refine⟨a_tyL (SqL.of eR),_,eR,?_⟩
 have w9:Same H1 (L2.upd H8 R (.lst [])):=w8.more nR
 generalize L2.upd H8 R (.lst [])=H9 at w9 ⊢
 k_units
 refine⟨dx,_,w9 _ _ h1,rfl,x,H0,rs1,ps,rfl,hx.on w9,fun R2 H10 w10 nR2 eR2=>?_⟩
 have w20:=w9.trans w10
 refine⟨_,dv H10 R2 w20 eR2,_,dw H10 w20,y1,y1,y2,?_⟩
 rw [y3]
 exact q _ (s1.trans w20)
def spLRf:Sp:=fun vs H Q _=>∃t:List Nat,vs=[.str (TX.S t)]∧t.length<=3000∧(∀ps:List Prt,(∀p∈ps,prN p)->t≠trT ps)∧newH H Q (.bl true)
theorem ok__law_refused {P:Program} {w:World} {K:W.Frag} {mg:Str->Option Value} {base:Heap} (T:Tx K mg):FnOk P w K mg base CX0 9 T.a__law_refused T.fd__law_refused ["_law_line"] spLRf:=by
 refine T.F__law_refused.ok sc__law_refused (fun vs H Q E h=>?_) (fun cdv A outer s H vs Q E hr h=>?_)
 ·obtain⟨t,rfl,_⟩:=h
  rfl
 obtain⟨t,rfl,ll,ht,q⟩:=h
 refine⟨_,((pss_cons (ps_set (i:=1) sc__law_refused.nd rfl (Or.inl rfl) pe_bl)
  (pss_cons (ps_try ⟨rfl,rfl⟩ (px_expr (px_call (FnOk.mono (ok_read_term T) (by decide)) hr rfl T.m_read_term T.F_read_term.kp T.b_read_term (pa_cons (pv 0) pa_nil))) rfl T.mc_NoTerm (fun _=>(pss_one (ps_set (i:=1) sc__law_refused.nd rfl (Or.inl rfl) pe_bl))))
  (pss_one (ps_ret (pv 1)))))),?_⟩
 dsimp only [a_seq]
 k_typeOf
 k_units
 refine⟨t,rfl,ll,.inr ⟨ht,fun H1 s1=>⟨_,rfl,T.kc_NoTerm_NoTerm,fun a na=>?_⟩⟩⟩
 exact q _ (s1.trans (same_upd na _))
def spLSm:Sp:=fun vs H Q _=>∃a b:Int,vs=[.int a,.int b]∧newH H Q (.bl true)
theorem ok__law_small {P:Program} {w:World} {K:W.Frag} {mg:Str->Option Value} {base:Heap} (T:Tx K mg):FnOk P w K mg base CX0 4 T.a__law_small T.fd__law_small ["_law_one","_law_other"] spLSm:=by
 refine T.F__law_small.ok sc__law_small (fun vs H Q E h=>?_) (fun cdv A outer s H vs Q E hr h=>?_)
 ·obtain⟨a,b,rfl,_⟩:=h
  rfl
 obtain⟨a,b,rfl,q⟩:=h
 refine⟨_,((pss_cons (ps_set (i:=2) sc__law_small.nd rfl (Or.inl rfl) (pe_call (FnOk.mono (ok__law_number T) (by decide)) hr rfl T.m__law_number T.F__law_number.kp T.b__law_number .nil pass0 (pa_cons (pv 0) (pa_cons (pe_op op_pow pe_int pe_int) pa_nil))))
  (pss_cons (ps_set (i:=3) sc__law_small.nd rfl (Or.inl rfl) (pe_call (FnOk.mono (ok__law_number T) (by decide)) hr rfl T.m__law_number T.F__law_number.kp T.b__law_number .nil pass0 (pa_cons (pv 1) (pa_cons (pe_op op_pow pe_int pe_int) pa_nil))))
  (pss_cons (ps_for PassesOwn.never rfl (pi_list (pe_lst (pa_cons (pe_tup (pa_cons (pv 2) (pa_cons (pv 3) (pa_cons pe_int pa_nil)))) (pa_cons (pe_tup (pa_cons pe_int (pa_cons (pv 2) (pa_cons (pv 3) pa_nil)))) (pa_cons (pe_tup (pa_cons (pv 3) (pa_cons pe_int (pa_cons (pv 2) pa_nil)))) (pa_cons (pe_tup (pa_cons (pv 2) (pa_cons (pv 3) (pa_cons (pv 2) pa_nil)))) pa_nil)))))) (pg_name (i:=4) sc__law_small.nd rfl (Or.inl rfl)) (pss_cons (ps_set (i:=5) sc__law_small.nd rfl (Or.inl rfl) (pe_call (FnOk.mono (ok_show_form T) (by decide)) hr rfl T.m_show_form T.F_show_form.kp T.b_show_form .nil pass0 (pa_cons (pv 4) pa_nil)))
  (pss_one (ps_if (PW.pt (pw_or (pt_not (pt_val (pe_callB call_isinst rfl T.z_isinstance bt_isinstance (pa_cons (pv 5) (pa_cons (pe_bltn (v:=.ty "str") rfl T.z_str bt_str rfl) pa_nil))))) (pw_or1 (pt_cmpR op_ne (pv 5) (pe_call (FnOk.mono (ok__law_form_text T) (by decide)) hr rfl T.m__law_form_text T.F__law_form_text.kp T.b__law_form_text .nil pass0 (pa_cons (pv 4) pa_nil)) (nomark _))))) (pss_one (ps_ret pe_bl)) pss_nil))))
  (pss_cons (ps_set (i:=6) sc__law_small.nd rfl (Or.inl rfl) (pe_call (FnOk.mono (ok__law_divisor T) (by decide)) hr rfl T.m__law_divisor T.F__law_divisor.kp T.b__law_divisor .nil pass0 (pa_cons (pv 2) (pa_cons (pe_op op_add (pe_callB call_abs rfl T.z_abs bt_abs (pa_cons (pv 3) pa_nil)) pe_int) pa_nil))))
  (pss_cons (ps_set (i:=7) sc__law_small.nd rfl (Or.inl rfl) (pe_tup (pa_cons (pe_op op_fdivB (pv 2) (pv 6)) (pa_cons (pe_op op_fdivB (pe_op op_add (pe_callB call_abs rfl T.z_abs bt_abs (pa_cons (pv 3) pa_nil)) pe_int) (pv 6)) pa_nil))))
  (pss_cons (ps_set (i:=5) sc__law_small.nd rfl (Or.inl rfl) (pe_call (FnOk.mono (ok_show_ratio T) (by decide)) hr rfl T.m_show_ratio T.F_show_ratio.kp T.b_show_ratio .nil pass0 (pa_cons (pv 7) pa_nil)))
  (pss_one (ps_ret (pe_and (pe_callB call_isinst rfl T.z_isinstance bt_isinstance (pa_cons (pv 5) (pa_cons (pe_bltn (v:=.ty "str") rfl T.z_str bt_str rfl) pa_nil))) (pe_one (pe_cmpR op_eq (pv 5) (pe_call (FnOk.mono (ok__law_ratio_text T) (by decide)) hr rfl T.m__law_ratio_text T.F__law_ratio_text.kp T.b__law_ratio_text .nil pass0 (pa_cons (pv 7) pa_nil)) (nomark _))))))))))))),?_⟩
 dsimp only [a_seq]
 k_typeOf
 refine⟨⟨by decide,by decide,by decide⟩,a,_,rfl,.inl rfl,fun m hm=>?_⟩
 have bm:m.natAbs < 2 ^ 200:=Nat.lt_of_lt_of_le hm (by decide)
 clear hm
 dsimp only [a_seq]
 k_typeOf
 refine⟨⟨by decide,by decide,by decide⟩,b,_,rfl,.inr (.inr rfl),fun n hn=>?_⟩
 have bn:n.natAbs < 2 ^ 200:=Nat.lt_of_lt_of_le hn (by decide)
 clear hn
 dsimp only [a_seq]
 k_typeOf
 refine⟨by decide,fun p0 n0=>⟨by decide,fun p1 n1=>⟨by decide,fun p2 n2=>⟨by decide,fun p3 n3=>⟨by decide,fun P5 nP5=>?_⟩⟩⟩⟩⟩
 have v0:=same_upd n0 (T3 (m,n,0))
 have v1:=same_upd n1 (T3 (0,m,n))
 have v2:=same_upd n2 (T3 (n,0,m))
 have v3:=same_upd n3 (T3 (m,n,m))
 have v5:=same_upd nP5 (.lst [V.ref p0,V.ref p1,V.ref p2,V.ref p3])
 have e0:=v5 _ _ (v3 _ _ (v2 _ _ (v1 _ _ (upd_same (H:=H) (a:=p0) (o:=T3 (m,n,0))))))
 have e1:=v5 _ _ (v3 _ _ (v2 _ _ (upd_same (H:=L2.upd H p0 (T3 (m,n,0))) (a:=p1) (o:=T3 (0,m,n)))))
 have e2:=v5 _ _ (v3 _ _ (upd_same (H:=L2.upd (L2.upd H p0 (T3 (m,n,0))) p1 (T3 (0,m,n))) (a:=p2) (o:=T3 (n,0,m))))
 have e3:=v5 _ _ (upd_same (H:=L2.upd (L2.upd (L2.upd H p0 (T3 (m,n,0))) p1 (T3 (0,m,n))) p2 (T3 (n,0,m))) (a:=p3) (o:=T3 (m,n,m)))
 have e5:=upd_same (H:=L2.upd (L2.upd (L2.upd (L2.upd H p0 (T3 (m,n,0))) p1 (T3 (0,m,n))) p2 (T3 (n,0,m))) p3 (T3 (m,n,m))) (a:=P5) (o:=.lst [V.ref p0,V.ref p1,V.ref p2,V.ref p3])
 have sG:=(((v0.trans v1).trans v2).trans v3).trans v5
 generalize L2.upd (L2.upd (L2.upd (L2.upd (L2.upd H p0 (T3 (m,n,0))) p1 (T3 (0,m,n))) p2 (T3 (n,0,m))) p3 (T3 (m,n,m))) P5 (.lst [V.ref p0,V.ref p1,V.ref p2,V.ref p3])=G at e0 e1 e2 e3 e5 sG ⊢
 clear v0 v1 v2 v3 v5 n0 n1 n2 n3 nP5
 have b4:∀{k:Int},k.natAbs < 2 ^ 200->k.natAbs < 2 ^ 400:=fun h=>Nat.lt_of_lt_of_le h (Nat.pow_le_pow_right (by decide) (by decide))
 have z4:(0:Int).natAbs < 2 ^ 400:=Nat.pow_pos (by decide)
 have b4m:=b4 bm
 have b4n:=b4 bn
 obtain⟨Pv,hPv⟩:∃Pv:Nat->L2.St->Hp->Prop,∀i σ H',Pv i σ H'↔∃r4 r5:Option V,σ=[some (V.int a),some (V.int b),some (V.int m),some (V.int n),r4,r5,none,none]∧Same G H':=⟨_,fun _ _ _=>Iff.rfl⟩
 refine⟨⟨_,SqL.of e5⟩,lp_list (xs:=[V.ref p0,V.ref p1,V.ref p2,V.ref p3]) Pv ((hPv _ _ _).mpr ⟨_,_,rfl,Same.refl _⟩) (fun i σ H' _ z=>by obtain⟨_,_,_,z⟩:=(hPv i σ H').mp z;exact z.seq (SqL.of e5)) ?_ ?_⟩
 ·intro i v σ Hx hv hp
  obtain⟨r4,r5,rfl,wx⟩:=(hPv _ _ _).mp hp
  obtain⟨r,f,rfl,er,bf⟩:∃(r:Addr) (f:F3),v=.ref r∧G r=some (T3 f)∧FBd f 400:=by
   match i,hv with
   | 0,hv=>exact⟨p0,_,(Option.some.inj hv).symm,e0,b4m,b4n,z4⟩
   | 1,hv=>exact⟨p1,_,(Option.some.inj hv).symm,e1,z4,b4m,b4n⟩
   | 2,hv=>exact⟨p2,_,(Option.some.inj hv).symm,e2,b4n,z4,b4m⟩
   | 3,hv=>exact⟨p3,_,(Option.some.inj hv).symm,e3,b4m,b4n,b4m⟩
   | i+4,hv=>simp at hv
  k_units
  refine⟨r,f,rfl,SqT.of (wx _ _ er),bf,fun H1 w1=>⟨_,.str _,true,rfl,?_⟩⟩
  rw [if_neg (by decide)]
  refine⟨r,f,rfl,SqT.of (w1 _ _ (wx _ _ er)),bf,fun H2 w2=>?_⟩
  simp only [a_neS]
  refine⟨_,rfl,?_⟩
  rw [if_neg (by simp)]
  exact (hPv _ _ _).mpr ⟨_,_,rfl,(wx.trans w1).trans w2⟩
 intro σ Hx hp
 obtain⟨r4,r5,rfl,wx⟩:=(hPv _ _ _).mp hp
 have sX:=sG.trans wx
 clear hp hPv Pv wx e0 e1 e2 e3 e5 sG
 obtain⟨d,hd⟩:∃d:Int,d=(if n < 0 then -n else n)+1:=⟨_,rfl⟩
 have d1:1<=d:=by rw [hd];split <;> omega
 have bd:d.natAbs < 2 ^ 201:=by
  have e:d.natAbs=n.natAbs+1:=by rw [hd];split <;> omega
  rw [e]
  exact Nat.lt_of_le_of_lt (Nat.succ_le_of_lt bn) (Nat.pow_lt_pow_right (by decide) (by decide))
 dsimp only [a_seq]
 k_typeOf
 simp only [← hd]
 refine⟨m,d,rfl,?_⟩
 have gp:0 < Nat.gcd m.natAbs d.natAbs:=Nat.gcd_pos_of_pos_right _ (by omega)
 have gl:Nat.gcd m.natAbs d.natAbs<=d.natAbs:=Nat.gcd_le_right _ (by omega)
 obtain⟨g,hg⟩:∃g:Int,g=((Nat.gcd m.natAbs d.natAbs:Nat):Int):=⟨_,rfl⟩
 simp only [← hg]
 have g0:g≠0:=by omega
 have gb:g.natAbs < 2 ^ 9000:=by
  rw [hg]
  exact Nat.lt_of_le_of_lt gl (Nat.lt_of_lt_of_le bd (Nat.pow_le_pow_right (by decide) (by decide)))
 have c1:m=g * m.fdiv g:=by
  rw [Int.mul_comm];exact (Int.fdiv_mul_cancel (by rw [hg];exact Int.ofNat_dvd_left.mpr (Nat.gcd_dvd_left _ _))).symm
 have c2:d=g * d.fdiv g:=by
  rw [Int.mul_comm];exact (Int.fdiv_mul_cancel (by rw [hg];exact Int.ofNat_dvd_left.mpr (Nat.gcd_dvd_right _ _))).symm
 have q1:=fdiv_le g0 c1
 have q2:=fdiv_le g0 c2
 have pos:1<=d.fdiv g:=by
  refine Classical.byContradiction fun z=>?_
  have:g * d.fdiv g<=g * 0:=Int.mul_le_mul_of_nonneg_left (by omega) (by omega)
  omega
 dsimp only [a_seq]
 k_typeOf
 simp only [← hd]
 refine⟨g0,gb,g0,gb,by decide,fun B nB=>?_⟩
 have eB:(L2.upd Hx B (.tup [.int (m.fdiv g),.int (d.fdiv g)])) B=some (T2 (m.fdiv g,d.fdiv g)):=upd_same
 have sB:=sX.trans (same_upd nB (.tup [.int (m.fdiv g),.int (d.fdiv g)]))
 have r1:(m.fdiv g).natAbs < 2 ^ 400:=Nat.lt_of_le_of_lt q1 b4m
 have r2:(d.fdiv g).natAbs < 2 ^ 400:=Nat.lt_of_le_of_lt q2 (Nat.lt_of_lt_of_le bd (Nat.pow_le_pow_right (by decide) (by decide)))
 dsimp only [a_seq]
 k_typeOf
 refine⟨B,(m.fdiv g,d.fdiv g),rfl,SqT.of eB,r1,r2,?_⟩
 k_units
 refine⟨_,.str _,true,rfl,?_⟩
 rw [if_pos rfl]
 refine⟨B,(m.fdiv g,d.fdiv g),rfl,SqT.of eB,r1,r2,pos,fun H2 w2=>?_⟩
 dsimp only
 rw [a_eqS,decide_eq_true rfl]
 exact q _ (sB.trans w2)
theorem sh_lenN {n:Int} (h:NB n):(TX.shI n).length<=61:=by
 have:=TX.dg_len h (by decide)
 unfold TX.shI;split
 ·simp;omega
 ·omega
theorem cnt_lenN {n:Int} (h:NB n) (i:Nat):(cntT n (Ltr i)).length<=62:=by
 have:=sh_lenN h
 have l:(Ltr i).length<=1:=by unfold Ltr;split;simp;split <;> simp
 unfold cntT;split
 ·rw [List.length_append];omega
 ·split
  ·omega
  ·rw [List.length_cons];omega
theorem step_lenN {acc:List Nat} {n:Int} (h:NB n) (i:Nat):(stepT acc n (Ltr i)).length<=acc.length+63:=by
 have:=cnt_lenN h i
 unfold stepT;split
 ·omega
 ·rw [List.length_append,List.length_append]
  have:(if 0 < n∧acc≠[] then [43] else ([]:List Nat)).length<=1:=by split <;> simp
  omega
theorem shF_lenN {f:F3} (h:NF f):(shF f).length<=189:=by
 have h1:=step_lenN (acc:=[]) h.1 0
 have h2:=step_lenN (acc:=stepT [] f.1 (Ltr 0)) h.2.1 1
 have h3:=step_lenN (acc:=stepT (stepT [] f.1 (Ltr 0)) f.2.1 (Ltr 1)) h.2.2 2
 have h4:(allT f).length<=189:=by
  rw [List.length_nil] at h1
  show (stepT (stepT (stepT [] f.1 (Ltr 0)) f.2.1 (Ltr 1)) f.2.2 (Ltr 2)).length<=189
  omega
 unfold shF;split
 ·simp
 ·exact h4
theorem shR_lenN {f:Int×Int} (h1:NB f.1) (h2:NB f.2):(shR f).length<=123:=by
 have:=sh_lenN h1
 have:=sh_lenN h2
 unfold shR;split
 ·omega
 ·rw [List.length_append,List.length_cons];omega
theorem prN_len {p:Prt} (h:prN p):(prT p).length<=400:=by
 match p,h with
 | .cho f g,h=>
  have:=shF_lenN h.1
  have:=shF_lenN h.2
  simp [prT];omega
 | .wei f,h=>have:=shF_lenN h;simp [prT];omega
 | .pow f,h=>have:=shR_lenN h.2.1 h.2.2;simp [prT];omega
 | .gro f,h=>have:=shR_lenN h.2.1 h.2.2;simp [prT];omega
theorem nb_small {n:Int} (h:n.natAbs<=9):NB n:=Nat.lt_of_le_of_lt h (by decide +kernel)
theorem nb_bd {n:Int} {k:Nat} (h:Bd k n) (hk:k<=190):NB n:=Nat.lt_of_lt_of_le h (Nat.le_trans (Nat.pow_le_pow_right (by decide) hk) (by decide +kernel))
theorem prt_n {p:Prt} (h:PrtOk p):prN p:=by
 match p,h with
 | .cho f g,⟨⟨h1,h2,h3,h4,h5,h6⟩,⟨g1,g2,g3,g4,g5,g6⟩,_⟩=>exact⟨⟨nb_small (by omega),nb_small (by omega),nb_small (by omega)⟩,nb_small (by omega),nb_small (by omega),nb_small (by omega)⟩
 | .wei f,h=>exact h
 | .pow f,⟨h1,_,h3,h4⟩=>exact⟨h1,nb_bd h3 (by decide),nb_bd h4 (by decide)⟩
 | .gro f,⟨h1,_,h3,h4⟩=>exact⟨h1,nb_bd h3 (by decide),nb_bd h4 (by decide)⟩
theorem prt_b {p:Prt} (h:prN p):PrB p∧prF p:=by
 match p,h with
 | .cho f g,h=>exact⟨⟨⟨nb_400 h.1.1,nb_400 h.1.2.1,nb_400 h.1.2.2⟩,nb_400 h.2.1,nb_400 h.2.2.1,nb_400 h.2.2.2⟩,trivial⟩
 | .wei f,h=>exact⟨⟨nb_400 h.1,nb_400 h.2.1,nb_400 h.2.2⟩,trivial⟩
 | .pow f,h=>exact⟨⟨nb_400 h.2.1,nb_400 h.2.2⟩,h.1.1⟩
 | .gro f,h=>exact⟨⟨nb_400 h.2.1,nb_400 h.2.2⟩,h.1.1⟩
theorem jn_le {w:List Nat} {B:Nat}:∀{ps:List (List Nat)},(∀p∈ps,p.length<=B)->(TX.jn w ps).length<=ps.length * (B+w.length)
 | [],_=>by simp [TX.jn]
 | [p],h=>by have:=h p (.head _);simp [TX.jn];omega
 | p :: q :: r,h=>by
  have h1:=h p (.head _)
  have h2:=jn_le (w:=w) (ps:=q :: r) fun x hx=>h x (.tail _ hx)
  rw [jn_cons2,List.length_append,List.length_append,List.length_cons,Nat.succ_mul]
  omega
theorem trT_len {ps:List Prt} (h:∀p∈ps,prN p) (l6:ps.length<=6):(trT ps).length<=2500:=by
 have:=jn_le (w:=[32,42,32]) (B:=400) (ps:=ps.map prT) fun q hq=>by
  obtain⟨p,hp,rfl⟩:=List.mem_map.mp hq
  exact prN_len (h p hp)
 rw [List.length_map] at this
 have e:[32,42,32].length=3:=rfl
 rw [e] at this
 have h2:=Nat.mul_le_mul_right 403 l6
 show (TX.jn [32,42,32] (ps.map prT)).length<=2500
 omega
theorem prT_end (p:Prt):∃u c,prT p=u++[c]∧c≠32:=by
 cases p with
 | cho f g=>exact⟨_,41,by rw [prT_c,← List.append_assoc],by decide⟩
 | wei f=>exact⟨_,41,by rw [prT_w,← List.append_assoc],by decide⟩
 | pow f=>exact⟨[91]++(shR f++[93,94]),107,by rw [prT_p];simp,by decide⟩
 | gro f=>exact⟨[91]++(shR f++[93,94]),110,by rw [prT_g];simp,by decide⟩
theorem trT_end:∀ps:List Prt,ps=[]∨∃u c,trT ps=u++[c]∧c≠32
 | []=>.inl rfl
 | [p]=>.inr (prT_end p)
 | p :: q :: r=>by
  obtain⟨u,c,e,h⟩:=(trT_end (q :: r)).resolve_left (fun z=>nomatch z)
  refine .inr ⟨prT p++([32,42,32]++u),c,?_,h⟩
  show TX.jn [32,42,32] (prT p :: prT q :: r.map prT)=_
  rw [jn_cons2,show TX.jn [32,42,32] (prT q :: r.map prT)=u++[c] from e]
  simp
theorem trT_no (t:List Nat) (ps:List Prt):t++[32]≠trT ps:=fun e=>by
 rcases trT_end ps with rfl | ⟨u,c,e2,h⟩
 ·cases t <;> cases e
 ·rw [e2] at e
  exact h (List.singleton_inj.mp (List.append_inj_right' e rfl)).symm
theorem psOk {ps:List Prt} (hO:∀p∈ps,PrtOk p) (l1:1<=ps.length) (l6:ps.length<=6):PsOk (trT ps) ps:=
 ⟨l1,l6,fun p hp=>⟨prt_n (hO p hp),hO p hp⟩,rfl,Nat.le_trans (trT_len (fun p hp=>prt_n (hO p hp)) l6) (by decide)⟩
def spLaw (K:W.Frag):Sp:=fun vs H Q _=>∃(a:Addr) (ns:List Int),vs=[.ref a]∧SqL K H a (ns.map V.int)∧ns.length<=63∧∀H',Q (.bl true) H'
theorem ok_law {P:Program} {w:World} {K:W.Frag} {mg:Str->Option Value} {base:Heap} (T:Tx K mg):FnOk P w K mg base CX0 12 T.a_law T.fd_law ["_law_script"] (spLaw K):=by
 refine T.F_law.ok sc_law (fun vs H Q E h=>?_) (fun cdv A outer s H vs Q E hr h=>?_)
 ·obtain⟨a,ns,rfl,_⟩:=h
  rfl
 obtain⟨A,ns,rfl,hA,hns,q⟩:=h
 refine⟨_,((pss_cons (ps_set (i:=1) sc_law.nd rfl (Or.inl rfl) (pe_call (FnOk.mono (ok__law_parts T) (by decide)) hr rfl T.m__law_parts T.F__law_parts.kp T.b__law_parts .nil pass0 (pa_cons (pv 0) (pa_cons (pe_lst (pa_cons pe_int (pa_cons pe_int (pa_cons pe_int (pa_cons pe_int (pa_cons pe_int (pa_cons pe_int pa_nil))))))) pa_nil))))
  (pss_cons (ps_set (i:=2) sc_law.nd rfl (Or.inl rfl) (pe_make T.mk_Term (FnOk.mono (ok_Term___init__ T) (by decide)) hr rfl T.mc_Term T.b_Term___init__ .nil passF (pa_cons (pe_callTy call_list_of rfl T.z_list bt_list (pa_cons (pv 1) pa_nil)) pa_nil)))
  (pss_cons (ps_set (i:=3) sc_law.nd rfl (Or.inl rfl) (pe_bm PySem.F.plainAttrs_str PySem.F.slot_str_join PySem.F.type_str_join mt_join pe_str (pa_cons (pe_lcomp rfl (blkok rfl sub_nil fv_nil) (pi_list (pv 1)) (fun _ _ _ _=>(pe_call (FnOk.mono (ok__law_part_text T) (by decide)) hr rfl T.m__law_part_text T.F__law_part_text.kp T.b__law_part_text .nil pass0 (pa_cons (pv 0) pa_nil)))) pa_nil)))
  (pss_cons (ps_set (i:=4) sc_law.nd rfl (Or.inl rfl) (pe_call (FnOk.mono (ok_show_term T) (by decide)) hr rfl T.m_show_term T.F_show_term.kp T.b_show_term .nil pass0 (pa_cons (pv 2) pa_nil)))
  (pss_cons (ps_if (PW.pt (pw_or (pt_not (pt_val (pe_callB call_isinst rfl T.z_isinstance bt_isinstance (pa_cons (pv 4) (pa_cons (pe_bltn (v:=.ty "str") rfl T.z_str bt_str rfl) pa_nil))))) (pw_or (pt_cmpR op_ne (pv 4) (pv 3) (nomark _)) (pw_or1 (pt_not (pt_val (pe_call (FnOk.mono (ok__law_read T) (by decide)) hr rfl T.m__law_read T.F__law_read.kp T.b__law_read .nil pass0 (pa_cons (pv 4) (pa_cons (pv 1) pa_nil))))))))) (pss_one (ps_ret pe_bl)) pss_nil)
  (pss_cons (ps_for PassesOwn.never rfl (pi_range2 rfl T.z_range (pa_cons pe_int (pa_cons (pe_op op_sub (pe_callB (call_min2 rfl) rfl T.z_min bt_min (pa_cons (pe_callB call_len_seq rfl T.z_len bt_len (pa_cons (pv 0) pa_nil)) (pa_cons pe_int pa_nil))) pe_int) pa_nil))) (pg_name (i:=5) sc_law.nd rfl (Or.inl rfl)) (pss_one (ps_if (pt_not (pt_val (pe_call (FnOk.mono (ok__law_small T) (by decide)) hr rfl T.m__law_small T.F__law_small.kp T.b__law_small .nil pass0 (pa_cons (pe_ix ix_list (pv 0) (pv 5) (fun _ _=>rfl)) (pa_cons (pe_ix ix_list (pv 0) (pe_op op_add (pv 5) pe_int) (fun _ _=>rfl)) pa_nil))))) (pss_one (ps_ret pe_bl)) pss_nil)))
  (pss_cons (ps_if (PW.pt (pw_or (pt_cmpR op_ne (pe_call (FnOk.mono (ok_show_form T) (by decide)) hr rfl T.m_show_form T.F_show_form.kp T.b_show_form .nil pass0 (pa_cons (pe_tup (pa_cons pe_int (pa_cons pe_int (pa_cons pe_int pa_nil)))) pa_nil)) pe_str (nomark _)) (pw_or (pt_not (pt_val (pe_call (FnOk.mono (ok__law_refused T) (by decide)) hr rfl T.m__law_refused T.F__law_refused.kp T.b__law_refused .nil pass0 (pa_cons (pe_op op_catS (pv 4) pe_str) pa_nil)))) (pw_or1 (pt_not (pt_val (pe_call (FnOk.mono (ok__law_read T) (by decide)) hr rfl T.m__law_read T.F__law_read.kp T.b__law_read .nil pass0 (pa_cons (pv 3) (pa_cons (pv 1) pa_nil))))))))) (pss_one (ps_ret pe_bl)) pss_nil)
  (pss_cons (ps_for PassesOwn.never rfl (pi_list (pv 1)) (pg_name (i:=6) sc_law.nd rfl (Or.inl rfl)) (pss_one (ps_if (pt_not (pt_val (pe_call (FnOk.mono (ok__law_read T) (by decide)) hr rfl T.m__law_read T.F__law_read.kp T.b__law_read .nil pass0 (pa_cons (pe_call (FnOk.mono (ok__law_part_text T) (by decide)) hr rfl T.m__law_part_text T.F__law_part_text.kp T.b__law_part_text .nil pass0 (pa_cons (pv 6) pa_nil)) (pa_cons (pe_lst (pa_cons (pv 6) pa_nil)) pa_nil))))) (pss_one (ps_ret pe_bl)) pss_nil)))
  (pss_one (ps_ret (pe_and (pe_cmpR op_eq (pe_call (FnOk.mono (ok_show_term T) (by decide)) hr rfl T.m_show_term T.F_show_term.kp T.b_show_term .nil pass0 (pa_cons (pv 2) pa_nil)) (pv 3) (nomark _)) (pe_one (pe_cmpR (op_eqD hr.units) (pe_meth0 (pv 2) T.cl_Term T.me_Term_told (FnOk.mono (ok_Term_told T) (by decide)) hr T.b_Term_told .nil pass0) (pv 1) (nomark _))))))))))))))),?_⟩
 dsimp only [a_seq]
 k_typeOf
 refine⟨by decide,fun p0 n0=>?_⟩
 have w0:=same_upd n0 (.lst [V.int 3,V.int 3,V.int 3,V.int 3,V.int 3,V.int 3])
 refine⟨A,p0,ns,rfl,w0.seq hA,upd_same,fun L rs ps H1 w1 nL eL hP hO l1 l6=>?_⟩
 have s1:=w0.trans w1
 clear w0 w1 nL
 dsimp only [a_seq]
 k_typeOf
 refine⟨_,.inl (SqL.of eL),fun P2 nP2=>?_⟩
 have w2:=same_upd nP2 (.lst (rs.map V.ref))
 refine mk_term upd_same (hP.on w2) hO l1 l6 fun x H3 w3 hx=>?_
 dsimp only [a_seq]
 k_typeOf
 have s13:=w2.trans w3
 have eL3:=s13 _ _ eL
 have hP3:=hP.on s13
 have hA3:=(s1.trans s13).seq hA
 generalize L2.upd H1 P2 (.lst (rs.map V.ref))=H2 at hx w2 w3
 clear w2 w3 s13 eL hP hA s1 nP2
 have hN:∀p∈ps,prN p:=fun p hp=>prt_n (hO p hp)
 have lT:=trT_len hN l6
 refine⟨⟨_,SqL.of eL3⟩,fun D nD=>?_⟩
 refine cl_vals (xs:=rs.map V.ref) (zs:=(ps.map fun p=>TX.S (prT p)).map V.str) nD (SqL.of eL3) (by simp [hP3.len]) (by simp;omega) (fun i v z Hx R hv hz sx hR=>?_) fun D' H4 s4 nD' eD'=>⟨D',rfl,_,SqL.of eD',?_,?_⟩
 ·rw [List.getElem?_map] at hv
  obtain⟨r,hr',rfl⟩:=Option.map_eq_some_iff.mp hv
  rw [List.getElem?_map,List.getElem?_map] at hz
  obtain⟨y,hy,rfl⟩:=Option.map_eq_some_iff.mp hz
  obtain⟨p,hp,rfl⟩:=Option.map_eq_some_iff.mp hy
  (iterate 3 (k_units;(try simp only [bst]));k_units)
  have hb:=prt_b (hN p (List.mem_of_getElem? hp))
  exact⟨r,p,rfl,(hP3.get i r p hr' hp).on sx,hb.1,hb.2,hR⟩
 ·have:=StrLaws.sumLen_le (B:=400) (ps.map fun p=>TX.S (prT p)) fun y hy=>by
   obtain⟨p,hp,rfl⟩:=List.mem_map.mp hy
   rw [TX.S_len];exact prN_len (hN p hp)
  rw [List.length_map] at this ⊢
  rw [l_st,TX.S_len]
  have e:[32,42,32].length=3:=rfl
  rw [e]
  omega
 rw [l_st,show (ps.map fun p=>TX.S (prT p))=(ps.map prT).map TX.S by rw [List.map_map];rfl,TX.join_S,show TX.jn [32,42,32] (ps.map prT)=trT ps from rfl]
 have hbs:∀p∈ps,PrB p:=fun p hp=>(prt_b (hN p hp)).1
 have okT:=psOk hO l1 l6
 dsimp only [a_seq]
 k_typeOf
 refine⟨x,H2,rs,ps,rfl,hx.on s4,hP3.on s4,l6,hbs,fun H5 s5=>?_⟩
 have s35:=s4.trans s5
 dsimp only [a_seq]
 k_typeOf
 refine⟨_,.str _,true,rfl,?_⟩
 rw [if_neg (by decide),if_neg (by simp)]
 refine⟨trT ps,L,rs,ps,rfl,SqL.of (s35 _ _ eL3),hP3.on s35,okT,fun H6 s6=>?_⟩
 have s36:=s35.trans s6
 clear s35 s4 s5 s6 nD nD' eD'
 refine⟨true,rfl,?_⟩
 rw [if_neg (by decide)]
 dsimp only [a_seq]
 k_typeOf
 refine⟨_,.inl (s36.seq hA3),?_⟩
 rw [List.length_map]
 obtain⟨e,he,e63,el⟩:∃e:Int,e=(if (63:Int) < (ns.length:Int) then 63 else (ns.length:Int)) - 1∧e<=62∧e+1<=ns.length∧-1<=e:=⟨_,rfl,by split <;> omega,by split <;> omega⟩
 rw [← he]
 obtain⟨Pv,hPv⟩:∃Pv:Nat->L2.St->Hp->Prop,∀i σ H',Pv i σ H'↔∃r5:Option V,σ=[some (V.ref A),some (V.ref L),some (V.ref x),some (.str (TX.S (trT ps))),some (.str (TX.S (trT ps))),r5,none]∧Same H3 H':=⟨_,fun _ _ _=>Iff.rfl⟩
 refine⟨by omega,by omega,by omega,by omega,lp_range Pv ((hPv _ _ _).mpr ⟨_,rfl,s36⟩) ?_ ?_⟩
 ·intro i σ Hx hi hp
  obtain⟨r5,rfl,wx⟩:=(hPv _ _ _).mp hp
  have hk:19+i+1 < ns.length:=by omega
  k_units
  have a1:atI (ns.map V.int) (19+(i:Int))=some (V.int ns[19+i]):=by
   rw [show (19:Int)+(i:Int)=((19+i:Nat):Int) by omega]
   exact atI_nat (by rw [List.getElem?_map,List.getElem?_eq_getElem (by omega)];rfl)
  have a2:atI (ns.map V.int) (19+(i:Int)+1)=some (V.int ns[19+i+1]):=by
   rw [show (19:Int)+(i:Int)+1=((19+i+1:Nat):Int) by omega]
   exact atI_nat (by rw [List.getElem?_map,List.getElem?_eq_getElem hk];rfl)
  refine⟨_,wx.seq hA3,_,a1,_,wx.seq hA3,_,a2,_,_,rfl,fun H7 w7=>⟨true,rfl,?_⟩⟩
  rw [if_neg (by decide)]
  exact (hPv _ _ _).mpr ⟨_,rfl,wx.trans w7⟩
 intro σ H7 hp
 obtain⟨r5,rfl,s37⟩:=(hPv _ _ _).mp hp
 clear hp hPv Pv s36
 dsimp only [a_seq]
 k_typeOf
 refine⟨by decide,fun z nz=>?_⟩
 have v1:=s37.trans (same_upd nz (T3 (0,0,0)))
 have z4:(0:Int).natAbs < 2 ^ 400:=Nat.pow_pos (by decide)
 refine⟨z,(0,0,0),rfl,SqT.of upd_same,⟨z4,z4,z4⟩,fun H8 w8=>?_⟩
 have v2:=v1.trans w8
 dsimp only
 rw [a_neS]
 refine⟨_,rfl,?_⟩
 rw [if_neg (by decide +kernel)]
 have l_bl:Str.ofString " " = TX.S [32]:=rfl
 refine⟨by rw [l_bl,TX.S_len,TX.S_len];exact sl_of (by simp;omega),trT ps++[32],by rw [l_bl,TX.S_app],by simp;omega,fun qs _=>trT_no _ _,fun H9 w9=>⟨true,rfl,?_⟩⟩
 have v3:=v2.trans w9
 rw [if_neg (by decide)]
 refine⟨trT ps,L,rs,ps,rfl,SqL.of (v3 _ _ eL3),hP3.on v3,okT,fun H10 w10=>⟨true,rfl,?_⟩⟩
 have v4:=v3.trans w10
 rw [if_neg (by decide)]
 clear v1 v2 v3 w8 w9 w10 nz s37
 dsimp only [a_seq]
 k_typeOf
 obtain⟨Pv,hPv⟩:∃Pv:Nat->L2.St->Hp->Prop,∀i σ H',Pv i σ H'↔∃r6:Option V,σ=[some (V.ref A),some (V.ref L),some (V.ref x),some (.str (TX.S (trT ps))),some (.str (TX.S (trT ps))),r5,r6]∧Same H3 H':=⟨_,fun _ _ _=>Iff.rfl⟩
 refine⟨⟨_,SqL.of (v4 _ _ eL3)⟩,lp_list (xs:=rs.map V.ref) Pv ((hPv _ _ _).mpr ⟨_,rfl,v4⟩) (fun i σ H' _ z=>by obtain⟨_,_,z⟩:=(hPv i σ H').mp z;exact SqL.of (z _ _ eL3)) ?_ ?_⟩
 ·intro i v σ Hx hv hp
  obtain⟨r6,rfl,wx⟩:=(hPv _ _ _).mp hp
  rw [List.getElem?_map] at hv
  obtain⟨r,hr1,rfl⟩:=Option.map_eq_some_iff.mp hv
  have hi:i < ps.length:=by have:=(List.getElem?_eq_some_iff.mp hr1).1;have:=hP3.len;omega
  have hpi:ps[i]?=some ps[i]:=List.getElem?_eq_getElem hi
  have hpt:=(hP3.get i r _ hr1 hpi).on wx
  have hm:=List.getElem_mem hi
  generalize ps[i]=p at hpt hm
  have hb:=prt_b (hN p hm)
  k_units
  refine⟨r,p,rfl,hpt,hb.1,hb.2,fun H11 w11=>⟨by decide,fun B nB=>?_⟩⟩
  have w12:=w11.trans (same_upd nB (.lst [V.ref r]))
  refine⟨prT p,B,[r],[p],rfl,SqL.of upd_same,⟨rfl,fun j r' p' e1 e2=>?_⟩,psOk (ps:=[p]) (fun p' h'=>by rw [List.mem_singleton.mp h'];exact hO p hm) (Nat.le_refl 1) (by simp),fun H13 w13=>⟨true,rfl,?_⟩⟩
  ·match j,e1,e2 with
   | 0,e1,e2=>
    cases e1;cases e2
    exact hpt.on w12
  ·rw [if_neg (by decide)]
   exact (hPv _ _ _).mpr ⟨_,rfl,(wx.trans w12).trans w13⟩
 intro σ H11 hp
 obtain⟨r6,rfl,w⟩:=(hPv _ _ _).mp hp
 clear hp hPv Pv v4
 k_units
 refine⟨x,H2,rs,ps,rfl,hx.on w,hP3.on w,l6,hbs,fun H12 w12=>?_⟩
 have ww:=w.trans w12
 obtain⟨dx,Q1,Q2,qs2,h1,h2⟩:=id hx
 obtain⟨y1,y2,y3⟩:=pts_ok ps
 dsimp only
 rw [a_eqS,decide_eq_true rfl]
 refine⟨_,rfl,?_⟩
 rw [if_pos rfl]
 refine⟨dx,_,ww _ _ h1,rfl,x,H2,rs,ps,rfl,hx.on ww,fun R H13 w13 nR eR=>?_⟩
 have w14:=ww.trans w13
 refine⟨_,dv_pts (SqL.of eR) (hP3.on w14),_,dv_pts (SqL.of (w14 _ _ eL3)) (hP3.on w14),y1,y1,y2,?_⟩
 rw [y3]
 exact q _
theorem ln_1 {us:List Value} (h:us.length=1):∃x0,us=[x0]:=by
 obtain⟨x0,u0,rfl⟩:=List.exists_cons_of_length_eq_add_one h
 exact⟨x0,by rw [List.eq_nil_of_length_eq_zero (Nat.succ.inj h)]⟩
theorem ln_2 {us:List Value} (h:us.length=2):∃x0 x1,us=[x0,x1]:=by
 obtain⟨x0,u0,rfl⟩:=List.exists_cons_of_length_eq_add_one h
 obtain⟨x1,u1,rfl⟩:=List.exists_cons_of_length_eq_add_one (Nat.succ.inj h)
 exact⟨x0,x1,by rw [List.eq_nil_of_length_eq_zero (Nat.succ.inj (Nat.succ.inj h))]⟩
theorem ln_3 {us:List Value} (h:us.length=3):∃x0 x1 x2,us=[x0,x1,x2]:=by
 obtain⟨x0,u0,rfl⟩:=List.exists_cons_of_length_eq_add_one h
 obtain⟨x1,u1,rfl⟩:=List.exists_cons_of_length_eq_add_one (Nat.succ.inj h)
 obtain⟨x2,u2,rfl⟩:=List.exists_cons_of_length_eq_add_one (Nat.succ.inj (Nat.succ.inj h))
 exact⟨x0,x1,x2,by rw [List.eq_nil_of_length_eq_zero (Nat.succ.inj (Nat.succ.inj (Nat.succ.inj h)))]⟩
local macro_rules | `(tactic| o_law)=>`(tactic| (intro _ _ _ _ _ _ us hl;first | (obtain⟨x0,e⟩:=ln_1 hl;subst e;rfl) | (obtain⟨x0,x1,e⟩:=ln_2 hl;subst e;rfl) | (obtain⟨x0,x1,x2,e⟩:=ln_3 hl;subst e;rfl)))
abbrev fdK (x q:Str) (st:Stmt) (pm:Value) (c:Nat):FuncData:=PySem.W.fnOf x q (defArgs st) (defBody st) (defScope st) .none .none .none pm none (.ref c) .none
abbrev FU (P:Params) (x q:Str) (st:Stmt) (f:Addr) (pm:Value) (c:Nat):Prop:=Fun (KK P) x q st f (fdK x q st pm c)
theorem fuk {P:Params} {x q:Str} {st:Stmt} {f:Addr} {pm:Value} {c:Nat} (l:(KK P).lookup f=some ⟨.type "function",none,.func (fdK x q st pm c),#[]⟩:=by kernel_rfl) (h:PySem.W.codeIn (KK P) (.ref c) q=true:=by kernel_rfl) (k:PySem.W.keepIn (KK P) (.ref f)=true:=by kernel_rfl):FU P x q st f pm c:=fun_mk l h k
abbrev pm0:Value:=.str "sumcraft.ratios" 239
abbrev pm1:Value:=.str "sumcraft.parts" 321
abbrev pm2:Value:=.str "sumcraft.terms" 685
abbrev pm3:Value:=.str "sumcraft.texts" 798
abbrev pm4:Value:=.str "law_sumcraft_k57_terms_written_and_read" 909
theorem kf0 (P:Params):FU P "divisor" "divisor" s_divisor 65 pm0 64:=fuk
theorem kf1 (P:Params):FU P "ratio" "ratio" s_ratio 72 pm0 71:=fuk
theorem kf2 (P:Params):FU P "low_forms" "low_forms" s_low_forms 124 pm1 123:=fuk
theorem kf3 (P:Params):FU P "within" "within" s_within 379 pm2 378:=fuk
theorem kf4 (P:Params):FU P "check_choose" "check_choose" s_check_choose 386 pm2 385:=fuk
theorem kf5 (P:Params):FU P "check_base" "check_base" s_check_base 393 pm2 392:=fuk
theorem kf6 (P:Params):FU P "piece_of" "piece_of" s_piece_of 400 pm2 399:=fuk
theorem kf7 (P:Params):FU P "show_ratio" "show_ratio" s_show_ratio 456 pm3 455:=fuk
theorem kf8 (P:Params):FU P "show_counted" "show_counted" s_show_counted 463 pm3 462:=fuk
theorem kf9 (P:Params):FU P "show_form" "show_form" s_show_form 470 pm3 469:=fuk
theorem kf10 (P:Params):FU P "show_part" "show_part" s_show_part 477 pm3 476:=fuk
theorem kf11 (P:Params):FU P "show_term" "show_term" s_show_term 482 pm3 481:=fuk
theorem kf12 (P:Params):FU P "read_whole" "read_whole" s_read_whole 487 pm3 486:=fuk
theorem kf13 (P:Params):FU P "read_ratio" "read_ratio" s_read_ratio 494 pm3 493:=fuk
theorem kf14 (P:Params):FU P "read_counted" "read_counted" s_read_counted 501 pm3 500:=fuk
theorem kf15 (P:Params):FU P "read_form" "read_form" s_read_form 508 pm3 507:=fuk
theorem kf16 (P:Params):FU P "read_choose" "read_choose" s_read_choose 513 pm3 512:=fuk
theorem kf17 (P:Params):FU P "read_part" "read_part" s_read_part 520 pm3 519:=fuk
theorem kf18 (P:Params):FU P "read_term" "read_term" s_read_term 525 pm3 524:=fuk
theorem kf19 (P:Params):FU P "_law_cell_at" "_law_cell_at" s__law_cell_at 532 pm4 531:=fuk
theorem kf20 (P:Params):FU P "_law_number" "_law_number" s__law_number 539 pm4 538:=fuk
theorem kf21 (P:Params):FU P "_law_divisor" "_law_divisor" s__law_divisor 546 pm4 545:=fuk
theorem kf22 (P:Params):FU P "_law_mixed" "_law_mixed" s__law_mixed 553 pm4 552:=fuk
theorem kf23 (P:Params):FU P "_law_forms" "_law_forms" s__law_forms 560 pm4 559:=fuk
theorem kf24 (P:Params):FU P "_law_ratio" "_law_ratio" s__law_ratio 567 pm4 566:=fuk
theorem kf25 (P:Params):FU P "_law_part" "_law_part" s__law_part 572 pm4 571:=fuk
theorem kf26 (P:Params):FU P "_law_parts" "_law_parts" s__law_parts 577 pm4 576:=fuk
theorem kf27 (P:Params):FU P "_law_form_text" "_law_form_text" s__law_form_text 584 pm4 583:=fuk
theorem kf28 (P:Params):FU P "_law_ratio_text" "_law_ratio_text" s__law_ratio_text 589 pm4 588:=fuk
theorem kf29 (P:Params):FU P "_law_part_text" "_law_part_text" s__law_part_text 596 pm4 595:=fuk
theorem kf30 (P:Params):FU P "_law_read" "_law_read" s__law_read 603 pm4 602:=fuk
theorem kf31 (P:Params):FU P "_law_refused" "_law_refused" s__law_refused 610 pm4 609:=fuk
theorem kf32 (P:Params):FU P "_law_small" "_law_small" s__law_small 617 pm4 616:=fuk
theorem kf33 (P:Params):FU P "law" "law" s_law 622 pm4 621:=fuk
theorem kf34 (P:Params):FU P "__init__" "Choose.__init__" s_Choose___init__ 208 pm1 207:=fuk
theorem kf35 (P:Params):FU P "__init__" "Weight.__init__" s_Weight___init__ 265 pm1 264:=fuk
theorem kf36 (P:Params):FU P "__init__" "Power.__init__" s_Power___init__ 298 pm1 297:=fuk
theorem kf37 (P:Params):FU P "__init__" "Growth.__init__" s_Growth___init__ 345 pm1 344:=fuk
theorem kf38 (P:Params):FU P "__init__" "Term.__init__" s_Term___init__ 419 pm2 418:=fuk
theorem kf39 (P:Params):FU P "told" "Term.told" s_Term_told 426 pm2 425:=fuk
theorem kx0 (P:Params):∀H:Hp,SqT (KK P) H 374 [.int (3),.int (3),.int (9)]:=fun H=>.inr ⟨⟨.type "tuple",none,.seq #[.int (3) 700,.int (3) 701,.int (9) 702],#[]⟩,_,_,by kernel_rfl,rfl,rfl,by decide,.cons ⟨_,rfl⟩ (.cons ⟨_,rfl⟩ (.cons ⟨_,rfl⟩ .nil))⟩
theorem kx1 (P:Params):∀H:Hp,SqT (KK P) H 372 [.int (0),.int (0),.int (0)]:=fun H=>.inr ⟨⟨.type "tuple",none,.seq #[.int (0) 689,.int (0) 690,.int (0) 691],#[]⟩,_,_,by kernel_rfl,rfl,rfl,by decide,.cons ⟨_,rfl⟩ (.cons ⟨_,rfl⟩ (.cons ⟨_,rfl⟩ .nil))⟩
theorem kx2 (P:Params):∀H:Hp,SqT (KK P) H 373 [.int (-3),.int (-3),.int (-9)]:=fun H=>.inr ⟨⟨.type "tuple",none,.seq #[.int (-3) 694,.int (-3) 696,.int (-9) 698],#[]⟩,_,_,by kernel_rfl,rfl,rfl,by decide,.cons ⟨_,rfl⟩ (.cons ⟨_,rfl⟩ (.cons ⟨_,rfl⟩ .nil))⟩
theorem kx3 (P:Params):(∀H:Hp,SqT (KK P) H 449 [.str "n",.str "k",.str ""])∧∃o,(KK P).lookup 449=some o∧o.cls=.type "tuple" ∧ o.dict=none:=⟨fun H=>.inr ⟨⟨.type "tuple",none,.seq #[.str "n" 808,.str "k" 809,.str "" 810],#[]⟩,_,_,by kernel_rfl,rfl,rfl,by decide,.cons ⟨_,rfl⟩ (.cons ⟨_,rfl⟩ (.cons ⟨_,rfl⟩ .nil))⟩,⟨.type "tuple",none,.seq #[.str "n" 808,.str "k" 809,.str "" 810],#[]⟩,by kernel_rfl,rfl,rfl⟩
theorem walk {l:PySem.W.OpenLaw} {q:Program} {loose:List Str} {XP:(Str->Option Value)->Heap->Prop} {YP:World->Heap->Prop} {d:DefRec} {K:Params->W.Frag} (hn:l.most=some 63) (hdf:d.params.defaults=[])
  (hY:∀(w:World) (h:Heap),YP w h->(K w.params).In h)
  (F:∀(w:World) (mg:Str->Option Value) (fa:Addr) (h:Heap),(K w.params).In h->h.Ns mainGlobals mg->mg d.name=some (.ref fa)->
   ∃T:Tx (K w.params) mg,T.a_law=fa∧∀(s:Shared) (v:Value),BindsTo s T.fd_law ⟨[v],[]⟩ [("_law_script",v)]):
  PySem.W.WalkO q loose XP YP l.row.toRowW d [] (fun f vs=>PySem.call f vs):=
 L2.walk_of (n:=63) (k:=40) (x := "_law_script") (CX:=fun _=>CX0) (sp:=fun w=>spLaw (K w.params)) hn (by decide) hdf ⟨rfl,by decide,by decide⟩ hY
  (fun w mg fa h KX G hmg=>by
   obtain⟨T,e,hb⟩:=F w mg fa h KX G hmg
   subst e
   exact⟨T.fd_law,hb,fun base _ _=>FnOk.mono (ok_law T) (by decide)⟩)
  (fun _ H a ns hl _ hS=>⟨a,ns,rfl,hS,hl,fun _=>rfl⟩) fun _ _ _ _ _ z=>z
theorem facts (w:World) (mg:Str->Option Value) (fa:Addr) (h:Heap) (KX:(KK w.params).In h) (G:h.Ns mainGlobals mg) (hmg:mg "law" = some (.ref fa)):
  ∃T:Tx (KK w.params) mg,T.a_law=fa∧∀(s:Shared) (v:Value),BindsTo s T.fd_law ⟨[v],[]⟩ [("_law_script",v)]:=by
 have ma:∀{x:Str} {f:Addr},PySem.W.nsIn (KK w.params) mainGlobals x=some (some (.ref f))->mg x=some (.ref f):=fun e=>PySem.W.mg_of KX G e
 have mi:∀{x:Str} {i:Int} {t:Tok},PySem.W.nsIn (KK w.params) mainGlobals x=some (some (.int i t))->mg x=some (.int i t):=fun e=>PySem.W.mg_of KX G e
 have mz:∀{x:Str},PySem.W.nsIn (KK w.params) mainGlobals x=some none->mg x=none:=fun e=>PySem.W.mg_none_of KX G e
 have e:=hmg.symm.trans (ma (f:=622) (by kernel_rfl))
 cases e
 exact⟨⟨_,_,kf0 _,ma (by kernel_rfl),(kf0 _).binds (by o_law),_,_,kf1 _,ma (by kernel_rfl),(kf1 _).binds (by o_law),_,_,kf2 _,ma (by kernel_rfl),(kf2 _).binds (by o_law),_,_,kf3 _,ma (by kernel_rfl),(kf3 _).binds (by o_law),_,_,kf4 _,ma (by kernel_rfl),(kf4 _).binds (by o_law),_,_,kf5 _,ma (by kernel_rfl),(kf5 _).binds (by o_law),_,_,kf6 _,ma (by kernel_rfl),(kf6 _).binds (by o_law),_,_,kf7 _,ma (by kernel_rfl),(kf7 _).binds (by o_law),_,_,kf8 _,ma (by kernel_rfl),(kf8 _).binds (by o_law),_,_,kf9 _,ma (by kernel_rfl),(kf9 _).binds (by o_law),_,_,kf10 _,ma (by kernel_rfl),(kf10 _).binds (by o_law),_,_,kf11 _,ma (by kernel_rfl),(kf11 _).binds (by o_law),_,_,kf12 _,ma (by kernel_rfl),(kf12 _).binds (by o_law),_,_,kf13 _,ma (by kernel_rfl),(kf13 _).binds (by o_law),_,_,kf14 _,ma (by kernel_rfl),(kf14 _).binds (by o_law),_,_,kf15 _,ma (by kernel_rfl),(kf15 _).binds (by o_law),_,_,kf16 _,ma (by kernel_rfl),(kf16 _).binds (by o_law),_,_,kf17 _,ma (by kernel_rfl),(kf17 _).binds (by o_law),_,_,kf18 _,ma (by kernel_rfl),(kf18 _).binds (by o_law),_,_,kf19 _,ma (by kernel_rfl),(kf19 _).binds (by o_law),_,_,kf20 _,ma (by kernel_rfl),(kf20 _).binds (by o_law),_,_,kf21 _,ma (by kernel_rfl),(kf21 _).binds (by o_law),_,_,kf22 _,ma (by kernel_rfl),(kf22 _).binds (by o_law),_,_,kf23 _,ma (by kernel_rfl),(kf23 _).binds (by o_law),_,_,kf24 _,ma (by kernel_rfl),(kf24 _).binds (by o_law),_,_,kf25 _,ma (by kernel_rfl),(kf25 _).binds (by o_law),_,_,kf26 _,ma (by kernel_rfl),(kf26 _).binds (by o_law),_,_,kf27 _,ma (by kernel_rfl),(kf27 _).binds (by o_law),_,_,kf28 _,ma (by kernel_rfl),(kf28 _).binds (by o_law),_,_,kf29 _,ma (by kernel_rfl),(kf29 _).binds (by o_law),_,_,kf30 _,ma (by kernel_rfl),(kf30 _).binds (by o_law),_,_,kf31 _,ma (by kernel_rfl),(kf31 _).binds (by o_law),_,_,kf32 _,ma (by kernel_rfl),(kf32 _).binds (by o_law),_,_,kf33 _,ma (by kernel_rfl),(kf33 _).binds (by o_law),_,_,kf34 _,(kf34 _).binds (by o_law),_,_,kf35 _,(kf35 _).binds (by o_law),_,_,kf36 _,(kf36 _).binds (by o_law),_,_,kf37 _,(kf37 _).binds (by o_law),_,_,kf38 _,(kf38 _).binds (by o_law),_,_,kf39 _,(kf39 _).binds (by o_law),37,ma (by kernel_rfl),by kernel_rfl,49,ma (by kernel_rfl),by kernel_rfl,249,ma (by kernel_rfl),⟨by kernel_rfl,by kernel_rfl,by kernel_rfl,by kernel_rfl⟩,⟨by kernel_rfl,by kernel_rfl,by kernel_rfl,by kernel_rfl⟩,by show PySem.W.findIn _ _ _=_;kernel_rfl,by show PySem.W.findIn _ _ _=_;kernel_rfl,369,ma (by kernel_rfl),⟨by kernel_rfl,by kernel_rfl,by kernel_rfl,by kernel_rfl⟩,⟨by kernel_rfl,by kernel_rfl,by kernel_rfl,by kernel_rfl⟩,by show PySem.W.findIn _ _ _=_;kernel_rfl,190,ma (by kernel_rfl),⟨by kernel_rfl,by kernel_rfl,by kernel_rfl,by kernel_rfl⟩,329,ma (by kernel_rfl),⟨by kernel_rfl,by kernel_rfl,by kernel_rfl,by kernel_rfl⟩,⟨by kernel_rfl,by kernel_rfl,by kernel_rfl,by kernel_rfl⟩,by show PySem.W.findIn _ _ _=_;kernel_rfl,444,ma (by kernel_rfl),⟨by kernel_rfl,by kernel_rfl,by kernel_rfl,by kernel_rfl⟩,⟨by kernel_rfl,by kernel_rfl,by kernel_rfl,by kernel_rfl⟩,⟨by kernel_rfl,by kernel_rfl,by kernel_rfl⟩,by show PySem.W.findIn _ _ _=_;kernel_rfl,by show PySem.W.findIn _ _ _=_;kernel_rfl,⟨by kernel_rfl,by kernel_rfl,by kernel_rfl,by kernel_rfl⟩,282,ma (by kernel_rfl),⟨by kernel_rfl,by kernel_rfl,by kernel_rfl,by kernel_rfl⟩,⟨by kernel_rfl,by kernel_rfl,by kernel_rfl,by kernel_rfl⟩,by show PySem.W.findIn _ _ _=_;kernel_rfl,⟨by kernel_rfl,by kernel_rfl,by kernel_rfl,by kernel_rfl⟩,by kernel_rfl,mz (by kernel_rfl),mz (by kernel_rfl),mz (by kernel_rfl),mz (by kernel_rfl),mz (by kernel_rfl),mz (by kernel_rfl),mz (by kernel_rfl),mz (by kernel_rfl),mz (by kernel_rfl),mz (by kernel_rfl),mz (by kernel_rfl),⟨241,mi (by kernel_rfl)⟩,⟨802,mi (by kernel_rfl)⟩,⟨687,mi (by kernel_rfl)⟩,⟨806,PySem.W.mg_of KX G (show PySem.W.nsIn (KK w.params) mainGlobals "BETWEEN_FORMS" = some (some (.str ", " 806)) by kernel_rfl)⟩,⟨804,PySem.W.mg_of KX G (show PySem.W.nsIn (KK w.params) mainGlobals "BETWEEN_PARTS" = some (some (.str " * " 804)) by kernel_rfl)⟩,⟨800,PySem.W.mg_of KX G (show PySem.W.nsIn (KK w.params) mainGlobals "FIGURES" = some (some (.str "0123456789" 800)) by kernel_rfl)⟩,⟨374,ma (by kernel_rfl),kx0 _⟩,⟨372,ma (by kernel_rfl),kx1 _⟩,⟨373,ma (by kernel_rfl),kx2 _⟩,⟨449,ma (by kernel_rfl),kx3 _⟩⟩,rfl,fun s v=>.of_eq rfl⟩
end My
open PySem PySem.W PyProof.Rows
set_option maxRecDepth 100000 in
set_option maxHeartbeats 0 in
theorem PySem.Challenge.cw_sumcraft_k57_terms_written_and_read_holds : PySem.Challenge.rw_sumcraft_k57_terms_written_and_read.Holds := by
 refine holds_law My.h_well fun said=>?_
 refine holds_open (r:=PySem.Challenge.rw_sumcraft_k57_terms_written_and_read.row)
  (q:=My.qv) (loose:=[]) (Xt:=My.xt)
  (XP:=XL My.qv []) (Yf:=My.hk.obs) (Ya:=My.hk.val)
  (YP:=My.hk.says) (N:=8858)
  My.left My.hk.of My.hk.keeps
  (fun s e=>xl_of s (Bool.and_eq_true_iff.mp e).1)
  XL.keeps (by rfl) (by rfl) (by rfl)
  (fun s e=>recFacts_of (Bool.and_eq_true_iff.mp e).2)
  (by rfl) said (by decide +kernel)
  My.h_bare ?wit ?go
 case wit=>w_witness2
 case go=>exact My.walk (l:=PySem.Challenge.rw_sumcraft_k57_terms_written_and_read) rfl rfl (fun w h Y=>kIn_of Y) My.facts
