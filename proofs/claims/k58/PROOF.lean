import PyProof.Rows.All
import Wide.All
import OpenK.AllK
import Wide.FinOn
import Lean
import PyProof.EqAt
import PyProof.EqKinds
import PyProof.TupleCall
import KE.KIntText
import KE.IntTextLaws
import PyProof.StrLawsTight
import PyProof.StrLawsReplace
import PyProof.StrLawsIn
import KE.IntTextText
import PySem.Challenge.RW_sumcraft_k58_texts_read_or_refused
set_option Elab.async false
set_option linter.all false
set_option maxRecDepth 100000
set_option maxHeartbeats 4000000
set_option compiler.extract_closed false
set_option bootstrap.genMatcherCode false
local macro_rules | `(tactic| omega) => `(tactic| first | lia | omega +splitDisjunctions)
noncomputable section
namespace My
open PySem PySem.Spec PyProof.Rows PySem.W
noncomputable def top (i:Nat):Stmt:=PySem.Challenge.pw_sumcraft_k58_texts_read_or_refused.main.body.getD i (.Pass ⟨0,0,0,0⟩)
def inCls (s:Stmt) (j:Nat):Stmt:=match s with
 | .ClassDef _ _ _ b _ _ _ _ _ _ _=>b.getD j (.Pass ⟨0,0,0,0⟩)
 | _=>.Pass ⟨0,0,0,0⟩
abbrev s_divisor:Stmt:=top 16
abbrev s_ratio:Stmt:=top 17
abbrev s_low_forms:Stmt:=top 28
abbrev s_within:Stmt:=top 42
abbrev s_check_choose:Stmt:=top 43
abbrev s_check_base:Stmt:=top 44
abbrev s_piece_of:Stmt:=top 45
abbrev s_show_ratio:Stmt:=top 54
abbrev s_show_counted:Stmt:=top 55
abbrev s_show_form:Stmt:=top 56
abbrev s_read_whole:Stmt:=top 57
abbrev s_read_ratio:Stmt:=top 58
abbrev s_read_counted:Stmt:=top 59
abbrev s_read_form:Stmt:=top 60
abbrev s_read_choose:Stmt:=top 61
abbrev s_read_part:Stmt:=top 62
abbrev s_read_term:Stmt:=top 63
abbrev s__law_cell_at:Stmt:=top 65
abbrev s__law_number:Stmt:=top 66
abbrev s__law_divisor:Stmt:=top 67
abbrev s__law_mixed:Stmt:=top 68
abbrev s__law_forms:Stmt:=top 69
abbrev s__law_ratio:Stmt:=top 70
abbrev s__law_part:Stmt:=top 71
abbrev s__law_parts:Stmt:=top 72
abbrev s__law_form_text:Stmt:=top 73
abbrev s__law_ratio_text:Stmt:=top 74
abbrev s__law_part_text:Stmt:=top 75
abbrev s__law_is:Stmt:=top 76
abbrev s__law_changed:Stmt:=top 77
abbrev s__law_odd:Stmt:=top 78
abbrev s__law_whole_of:Stmt:=top 79
abbrev s__law_form_of:Stmt:=top 80
abbrev s__law_ratio_of:Stmt:=top 81
abbrev s__law_is_choose:Stmt:=top 82
abbrev s__law_part_of:Stmt:=top 83
abbrev s__law_judged:Stmt:=top 84
abbrev s_law:Stmt:=top 85
abbrev s_Choose___init__:Stmt:=inCls (top 33) 0
abbrev s_Weight___init__:Stmt:=inCls (top 34) 0
abbrev s_Power___init__:Stmt:=inCls (top 35) 0
abbrev s_Growth___init__:Stmt:=inCls (top 36) 0
abbrev s_Term___init__:Stmt:=inCls (top 47) 0
abbrev s_Term_told:Stmt:=inCls (top 47) 1
noncomputable def kE (P:Params) (x:String) (n:Nat) (v:Value):DictEntry:=⟨PyData.keyHash P (Str.ofString x),.str (Str.ofString x) n,v⟩
noncomputable def kM (x q:Str) (s:Stmt) (m:Str) (k c:Nat):Obj:=match s with
 | .FunctionDef _ a b _ _ _ sc _ _ _=>⟨.type "function",none,.func (fnOf x q a b sc .none .none .none (.str m k) none (.ref c) .none),#[]⟩
 | _=>⟨.none,none,.plain,#[]⟩
def kN (x q:Str) (s:Stmt):Obj:=match s with
 | .FunctionDef _ a b _ _ _ sc _ _ _=>⟨.none,none,.func { name:=x,qualname:=q,params:=a,body:=.stmts b,scope:=sc,globals:=0,closure:=[],defaults:=.none,kwdefaults:=.none },#[]⟩
 | _=>⟨.none,none,.plain,#[]⟩
noncomputable def oT (x:Array Value):Obj:={ cls:=.type "tuple",data:=Data.seq x }
noncomputable def oF (x:Array Value):Obj:={ cls:=.none,data:=Data.fields x }
noncomputable def oK (x:Array Value):Obj:={ cls:=.type "code",data:=Data.fields x }
noncomputable def oB (x:Array Value):Obj:={ cls:=.type "builtin_function_or_method",data:=Data.fields x }
def cp (n:Nat):Value:=.str "/claim/cut.py" n
noncomputable def frC (x q:Str) (n L a f r:Nat) (b:Bool) (c k:Nat):Obj:=oK #[.str x n,.str q (n+1),cp (n+2),.int L 0,.int a 0,.int 0 0,.int 0 0,.int f 0,.ref r,.bool b,.int c 0,.ref (r+1),.none,.ref (r+2),.ref (r+3),.ref (r+4),.int k 0,.int L 0,cp (k+1)]
noncomputable def frT:Nat->List String->List Value
 | _,[]=>[]
 | n,x :: r=>.str (Str.ofString x) n :: frT (n+1) r
noncomputable def frS (n:Nat) (l:List String):Obj:=oT ⟨frT n l⟩
noncomputable def frL (l:List (Nat×Nat)):Obj:=oF ⟨l.flatMap fun p=>[.int p.1 0,.int 0 0,.ref p.2]⟩
noncomputable def frD (e:DictEntry) (l:List DictEntry) (n:Nat):Obj:={ cls:=.type "dict",data:=Data.dict ⟨e :: l⟩ n }
def ob11:Obj:=oT #[]
def ob12:Obj:=oF #[]
def ob13:Obj:=oK #[.str "<module>" 182,.str "<module>" 183,cp 184,.int 1 0,.int 0 0,.int 0 0,.int 0 0,.int 0 0,.ref 11,.bool false,.int 181 0,.ref 12,.none,.none,.none,.none,.int 185 0,.int 1 0,cp 186]
def ob14:Obj:={ cls:=.type "frame",slots:=#[some (.ref 13),some (.ref 3),some (.ref 3),none,some (.str "__main__" 164),none,some (.ref 0)] }
noncomputable def frM0 (P:Params):List DictEntry:=[kE P "__doc__" 166 (.none),kE P "__package__" 167 (.none),kE P "__loader__" 168 (.builtin "__main__.__loader__#opaque"),kE P "__spec__" 169 (.none),kE P "__annotations__" 170 (.ref 6),kE P "__builtins__" 171 (.ref 4),kE P "__file__" 173 (cp 172),kE P "__cached__" 174 (.none),kE P "SumError" 206 (.ref 24),kE P "NoNumber" 222 (.ref 37),kE P "NoRule" 238 (.ref 49),kE P "TooFew" 254 (.ref 61),kE P "NotKept" 279 (.ref 80),kE P "TooGreat" 295 (.ref 92)]
noncomputable def ob3 (P:Params):Obj:=frD (kE P "__name__" 165 (.str "sumcraft.errors" 187)) (frM0 P) 15
def ob12':Obj:=frL [(2,20),(4,33),(6,45),(8,57),(10,69),(15,88)]
def ob15:Obj:=oT #[.type "ValueError"]
def ob16:Obj:=oB #[.builtin "type.__prepare__",.type "type"]
def ob17 (P:Params):Obj:={ cls:=.type "dict",data:=Data.dict #[kE P "__module__" 196 (.str "sumcraft.errors" 187),kE P "__qualname__" 198 (.str "SumError" 197),kE P "__firstlineno__" 200 (.int 2 199),kE P "__static_attributes__" 201 (.ref 22)] 4 }
def ob20:Obj:=oK #[.str "SumError" 191,.str "SumError" 192,cp 193,.int 2 0,.int 0 0,.int 0 0,.int 0 0,.int 0 0,.ref 18,.bool false,.int 181 0,.ref 19,.none,.none,.none,.none,.int 194 0,.int 2 0,cp 195]
def ob21:Obj:={ cls:=.type "frame",slots:=#[some (.ref 20),some (.ref 3),some (.ref 17),none,some (.str "sumcraft.errors" 187),none,some (.ref 0)] }
def ob23 (P:Params):Obj:={ cls:=.type "dict",data:=Data.dict #[kE P "__module__" 196 (.str "sumcraft.errors" 187),kE P "__firstlineno__" 200 (.int 2 199),kE P "__static_attributes__" 201 (.ref 22),kE P "__weakref__" 203 (.ref 25),kE P "__doc__" 204 (.none)] 3 }
def ob24:Obj:={ cls:=.type "type",data:=Data.cls { name := "SumError",bases:=[.type "ValueError"],mro:=[.ref 24,.type "ValueError",.type "Exception",.type "BaseException",.type "object"],ns:=23,qualname := "SumError",subclasses:=[.ref 37,.ref 49,.ref 61,.ref 80,.ref 92] },slots:=#[some (.ref 15),none,some (.str "SumError" 189),some (.str "SumError" 197),some (.builtin "ValueError.__new__"),some (.bool true)] }
def ob25:Obj:={ cls:=.type "getset_descriptor",data:=Data.fields #[.str "__weakref__" 202,.ref 24,.builtin "ExceptionGroup.__weakref__",.none] }
def ob26:Obj:={ cls:=.type "super",data:=Data.fields #[.ref 24,.ref 24,.ref 24] }
def ob27:Obj:=oB #[.builtin "object.__init_subclass__",.ref 24]
def ob28:Obj:=oT #[.ref 24]
def ob30 (P:Params):Obj:={ cls:=.type "dict",data:=Data.dict #[kE P "__module__" 214 (.str "sumcraft.errors" 187),kE P "__qualname__" 216 (.str "NoNumber" 215),kE P "__firstlineno__" 218 (.int 4 217),kE P "__static_attributes__" 219 (.ref 35)] 4 }
def ob33:Obj:=oK #[.str "NoNumber" 209,.str "NoNumber" 210,cp 211,.int 4 0,.int 0 0,.int 0 0,.int 0 0,.int 0 0,.ref 31,.bool false,.int 181 0,.ref 32,.none,.none,.none,.none,.int 212 0,.int 4 0,cp 213]
def ob34:Obj:={ cls:=.type "frame",slots:=#[some (.ref 33),some (.ref 3),some (.ref 30),none,some (.str "sumcraft.errors" 187),none,some (.ref 0)] }
def ob36 (P:Params):Obj:={ cls:=.type "dict",data:=Data.dict #[kE P "__module__" 214 (.str "sumcraft.errors" 187),kE P "__firstlineno__" 218 (.int 4 217),kE P "__static_attributes__" 219 (.ref 35),kE P "__doc__" 220 (.none)] 2 }
def ob37:Obj:={ cls:=.type "type",data:=Data.cls { name := "NoNumber",bases:=[.ref 24],mro:=[.ref 37,.ref 24,.type "ValueError",.type "Exception",.type "BaseException",.type "object"],ns:=36,qualname := "NoNumber" },slots:=#[some (.ref 28),none,some (.str "NoNumber" 207),some (.str "NoNumber" 215),some (.builtin "ValueError.__new__"),some (.bool true)] }
def ob38:Obj:={ cls:=.type "super",data:=Data.fields #[.ref 37,.ref 37,.ref 37] }
def ob39:Obj:=oB #[.builtin "object.__init_subclass__",.ref 37]
def ob42 (P:Params):Obj:={ cls:=.type "dict",data:=Data.dict #[kE P "__module__" 230 (.str "sumcraft.errors" 187),kE P "__qualname__" 232 (.str "NoRule" 231),kE P "__firstlineno__" 234 (.int 6 233),kE P "__static_attributes__" 235 (.ref 47)] 4 }
def ob45:Obj:=oK #[.str "NoRule" 225,.str "NoRule" 226,cp 227,.int 6 0,.int 0 0,.int 0 0,.int 0 0,.int 0 0,.ref 43,.bool false,.int 181 0,.ref 44,.none,.none,.none,.none,.int 228 0,.int 6 0,cp 229]
def ob46:Obj:={ cls:=.type "frame",slots:=#[some (.ref 45),some (.ref 3),some (.ref 42),none,some (.str "sumcraft.errors" 187),none,some (.ref 0)] }
def ob48 (P:Params):Obj:={ cls:=.type "dict",data:=Data.dict #[kE P "__module__" 230 (.str "sumcraft.errors" 187),kE P "__firstlineno__" 234 (.int 6 233),kE P "__static_attributes__" 235 (.ref 47),kE P "__doc__" 236 (.none)] 2 }
def ob49:Obj:={ cls:=.type "type",data:=Data.cls { name := "NoRule",bases:=[.ref 24],mro:=[.ref 49,.ref 24,.type "ValueError",.type "Exception",.type "BaseException",.type "object"],ns:=48,qualname := "NoRule" },slots:=#[some (.ref 40),none,some (.str "NoRule" 223),some (.str "NoRule" 231),some (.builtin "ValueError.__new__"),some (.bool true)] }
def ob50:Obj:={ cls:=.type "super",data:=Data.fields #[.ref 49,.ref 49,.ref 49] }
def ob51:Obj:=oB #[.builtin "object.__init_subclass__",.ref 49]
def ob54 (P:Params):Obj:={ cls:=.type "dict",data:=Data.dict #[kE P "__module__" 246 (.str "sumcraft.errors" 187),kE P "__qualname__" 248 (.str "TooFew" 247),kE P "__firstlineno__" 250 (.int 8 249),kE P "__static_attributes__" 251 (.ref 59)] 4 }
def ob57:Obj:=oK #[.str "TooFew" 241,.str "TooFew" 242,cp 243,.int 8 0,.int 0 0,.int 0 0,.int 0 0,.int 0 0,.ref 55,.bool false,.int 181 0,.ref 56,.none,.none,.none,.none,.int 244 0,.int 8 0,cp 245]
def ob58:Obj:={ cls:=.type "frame",slots:=#[some (.ref 57),some (.ref 3),some (.ref 54),none,some (.str "sumcraft.errors" 187),none,some (.ref 0)] }
def ob60 (P:Params):Obj:={ cls:=.type "dict",data:=Data.dict #[kE P "__module__" 246 (.str "sumcraft.errors" 187),kE P "__firstlineno__" 250 (.int 8 249),kE P "__static_attributes__" 251 (.ref 59),kE P "__doc__" 252 (.none)] 2 }
def ob61:Obj:={ cls:=.type "type",data:=Data.cls { name := "TooFew",bases:=[.ref 24],mro:=[.ref 61,.ref 24,.type "ValueError",.type "Exception",.type "BaseException",.type "object"],ns:=60,qualname := "TooFew" },slots:=#[some (.ref 52),none,some (.str "TooFew" 239),some (.str "TooFew" 247),some (.builtin "ValueError.__new__"),some (.bool true)] }
def ob62:Obj:={ cls:=.type "super",data:=Data.fields #[.ref 61,.ref 61,.ref 61] }
def ob63:Obj:=oB #[.builtin "object.__init_subclass__",.ref 61]
def ob66 (P:Params):Obj:={ cls:=.type "dict",data:=Data.dict #[kE P "__module__" 262 (.str "sumcraft.errors" 187),kE P "__qualname__" 264 (.str "NotKept" 263),kE P "__firstlineno__" 266 (.int 10 265),kE P "__init__" 274 (.ref 77),kE P "__static_attributes__" 276 (.ref 78)] 5 }
def ob68:Obj:=oF #[.int 12 0,.int 4 0,.ref 76]
def ob69:Obj:=oK #[.str "NotKept" 257,.str "NotKept" 258,cp 259,.int 10 0,.int 0 0,.int 0 0,.int 0 0,.int 0 0,.ref 67,.bool false,.int 181 0,.ref 68,.none,.none,.none,.none,.int 260 0,.int 10 0,cp 261]
def ob70:Obj:={ cls:=.type "frame",slots:=#[some (.ref 69),some (.ref 3),some (.ref 66),none,some (.str "sumcraft.errors" 187),none,some (.ref 0)] }
def ob73:Obj:=frS 270 ["self","place"]
def ob75:Obj:=kN "__init__" "NotKept.__init__" (inCls (top 5) 0)
def ob76:Obj:=frC "__init__" "NotKept.__init__" 267 12 2 3 71 true 181 272
def ob77:Obj:=kM "__init__" "NotKept.__init__" (inCls (top 5) 0) "sumcraft.errors" 187 76
def ob78:Obj:=oT #[.str "place" 275]
def ob79 (P:Params):Obj:={ cls:=.type "dict",data:=Data.dict #[kE P "__module__" 262 (.str "sumcraft.errors" 187),kE P "__firstlineno__" 266 (.int 10 265),kE P "__init__" 274 (.ref 77),kE P "__static_attributes__" 276 (.ref 78),kE P "__doc__" 277 (.none)] 2 }
def ob80:Obj:={ cls:=.type "type",data:=Data.cls { name := "NotKept",bases:=[.ref 24],mro:=[.ref 80,.ref 24,.type "ValueError",.type "Exception",.type "BaseException",.type "object"],ns:=79,qualname := "NotKept" },slots:=#[some (.ref 64),none,some (.str "NotKept" 255),some (.str "NotKept" 263),some (.builtin "ValueError.__new__"),some (.bool true)] }
def ob81:Obj:={ cls:=.type "super",data:=Data.fields #[.ref 80,.ref 80,.ref 80] }
def ob82:Obj:=oB #[.builtin "object.__init_subclass__",.ref 80]
def ob85 (P:Params):Obj:={ cls:=.type "dict",data:=Data.dict #[kE P "__module__" 287 (.str "sumcraft.errors" 187),kE P "__qualname__" 289 (.str "TooGreat" 288),kE P "__firstlineno__" 291 (.int 15 290),kE P "__static_attributes__" 292 (.ref 90)] 4 }
def ob88:Obj:=oK #[.str "TooGreat" 282,.str "TooGreat" 283,cp 284,.int 15 0,.int 0 0,.int 0 0,.int 0 0,.int 0 0,.ref 86,.bool false,.int 181 0,.ref 87,.none,.none,.none,.none,.int 285 0,.int 15 0,cp 286]
def ob89:Obj:={ cls:=.type "frame",slots:=#[some (.ref 88),some (.ref 3),some (.ref 85),none,some (.str "sumcraft.errors" 187),none,some (.ref 0)] }
def ob91 (P:Params):Obj:={ cls:=.type "dict",data:=Data.dict #[kE P "__module__" 287 (.str "sumcraft.errors" 187),kE P "__firstlineno__" 291 (.int 15 290),kE P "__static_attributes__" 292 (.ref 90),kE P "__doc__" 293 (.none)] 2 }
def ob92:Obj:={ cls:=.type "type",data:=Data.cls { name := "TooGreat",bases:=[.ref 24],mro:=[.ref 92,.ref 24,.type "ValueError",.type "Exception",.type "BaseException",.type "object"],ns:=91,qualname := "TooGreat" },slots:=#[some (.ref 83),none,some (.str "TooGreat" 280),some (.str "TooGreat" 288),some (.builtin "ValueError.__new__"),some (.bool true)] }
def ob93:Obj:={ cls:=.type "super",data:=Data.fields #[.ref 92,.ref 92,.ref 92] }
def ob94:Obj:=oB #[.builtin "object.__init_subclass__",.ref 92]
noncomputable def frM1 (P:Params):List DictEntry:=frM0 P++[kE P "NoPlace" 311 (.ref 104),kE P "NoTerm" 327 (.ref 116),kE P "NoEnds" 343 (.ref 128),kE P "NoLine" 359 (.ref 140),kE P "NoName" 375 (.ref 152),kE P "LONG" 379 (.int 4000 378),kE P "WINDOW" 381 (.int 300 380),kE P "shortened" 398 (.ref 161),kE P "divisor" 410 (.ref 168),kE P "ratio" 419 (.ref 175)]
noncomputable def ob3' (P:Params):Obj:=frD (kE P "__name__" 165 (.str "sumcraft.pairs" 420)) (frM1 P) 25
def ob12'':Obj:=frL [(2,20),(4,33),(6,45),(8,57),(10,69),(15,88),(17,100),(19,112),(21,124),(23,136),(25,148),(30,160),(46,167),(58,174)]
def ob24':Obj:={ cls:=.type "type",data:=Data.cls { name := "SumError",bases:=[.type "ValueError"],mro:=[.ref 24,.type "ValueError",.type "Exception",.type "BaseException",.type "object"],ns:=23,qualname := "SumError",subclasses:=[.ref 37,.ref 49,.ref 61,.ref 80,.ref 92,.ref 104,.ref 116,.ref 128,.ref 140,.ref 152] },slots:=#[some (.ref 15),none,some (.str "SumError" 189),some (.str "SumError" 197),some (.builtin "ValueError.__new__"),some (.bool true)] }
def ob97 (P:Params):Obj:={ cls:=.type "dict",data:=Data.dict #[kE P "__module__" 303 (.str "sumcraft.errors" 187),kE P "__qualname__" 305 (.str "NoPlace" 304),kE P "__firstlineno__" 307 (.int 17 306),kE P "__static_attributes__" 308 (.ref 102)] 4 }
def ob100:Obj:=oK #[.str "NoPlace" 298,.str "NoPlace" 299,cp 300,.int 17 0,.int 0 0,.int 0 0,.int 0 0,.int 0 0,.ref 98,.bool false,.int 181 0,.ref 99,.none,.none,.none,.none,.int 301 0,.int 17 0,cp 302]
def ob101:Obj:={ cls:=.type "frame",slots:=#[some (.ref 100),some (.ref 3),some (.ref 97),none,some (.str "sumcraft.errors" 187),none,some (.ref 0)] }
def ob103 (P:Params):Obj:={ cls:=.type "dict",data:=Data.dict #[kE P "__module__" 303 (.str "sumcraft.errors" 187),kE P "__firstlineno__" 307 (.int 17 306),kE P "__static_attributes__" 308 (.ref 102),kE P "__doc__" 309 (.none)] 2 }
def ob104:Obj:={ cls:=.type "type",data:=Data.cls { name := "NoPlace",bases:=[.ref 24],mro:=[.ref 104,.ref 24,.type "ValueError",.type "Exception",.type "BaseException",.type "object"],ns:=103,qualname := "NoPlace" },slots:=#[some (.ref 95),none,some (.str "NoPlace" 296),some (.str "NoPlace" 304),some (.builtin "ValueError.__new__"),some (.bool true)] }
def ob105:Obj:={ cls:=.type "super",data:=Data.fields #[.ref 104,.ref 104,.ref 104] }
def ob106:Obj:=oB #[.builtin "object.__init_subclass__",.ref 104]
def ob109 (P:Params):Obj:={ cls:=.type "dict",data:=Data.dict #[kE P "__module__" 319 (.str "sumcraft.errors" 187),kE P "__qualname__" 321 (.str "NoTerm" 320),kE P "__firstlineno__" 323 (.int 19 322),kE P "__static_attributes__" 324 (.ref 114)] 4 }
def ob112:Obj:=oK #[.str "NoTerm" 314,.str "NoTerm" 315,cp 316,.int 19 0,.int 0 0,.int 0 0,.int 0 0,.int 0 0,.ref 110,.bool false,.int 181 0,.ref 111,.none,.none,.none,.none,.int 317 0,.int 19 0,cp 318]
def ob113:Obj:={ cls:=.type "frame",slots:=#[some (.ref 112),some (.ref 3),some (.ref 109),none,some (.str "sumcraft.errors" 187),none,some (.ref 0)] }
def ob115 (P:Params):Obj:={ cls:=.type "dict",data:=Data.dict #[kE P "__module__" 319 (.str "sumcraft.errors" 187),kE P "__firstlineno__" 323 (.int 19 322),kE P "__static_attributes__" 324 (.ref 114),kE P "__doc__" 325 (.none)] 2 }
def ob116:Obj:={ cls:=.type "type",data:=Data.cls { name := "NoTerm",bases:=[.ref 24],mro:=[.ref 116,.ref 24,.type "ValueError",.type "Exception",.type "BaseException",.type "object"],ns:=115,qualname := "NoTerm" },slots:=#[some (.ref 107),none,some (.str "NoTerm" 312),some (.str "NoTerm" 320),some (.builtin "ValueError.__new__"),some (.bool true)] }
def ob117:Obj:={ cls:=.type "super",data:=Data.fields #[.ref 116,.ref 116,.ref 116] }
def ob118:Obj:=oB #[.builtin "object.__init_subclass__",.ref 116]
def ob121 (P:Params):Obj:={ cls:=.type "dict",data:=Data.dict #[kE P "__module__" 335 (.str "sumcraft.errors" 187),kE P "__qualname__" 337 (.str "NoEnds" 336),kE P "__firstlineno__" 339 (.int 21 338),kE P "__static_attributes__" 340 (.ref 126)] 4 }
def ob124:Obj:=oK #[.str "NoEnds" 330,.str "NoEnds" 331,cp 332,.int 21 0,.int 0 0,.int 0 0,.int 0 0,.int 0 0,.ref 122,.bool false,.int 181 0,.ref 123,.none,.none,.none,.none,.int 333 0,.int 21 0,cp 334]
def ob125:Obj:={ cls:=.type "frame",slots:=#[some (.ref 124),some (.ref 3),some (.ref 121),none,some (.str "sumcraft.errors" 187),none,some (.ref 0)] }
def ob127 (P:Params):Obj:={ cls:=.type "dict",data:=Data.dict #[kE P "__module__" 335 (.str "sumcraft.errors" 187),kE P "__firstlineno__" 339 (.int 21 338),kE P "__static_attributes__" 340 (.ref 126),kE P "__doc__" 341 (.none)] 2 }
def ob128:Obj:={ cls:=.type "type",data:=Data.cls { name := "NoEnds",bases:=[.ref 24],mro:=[.ref 128,.ref 24,.type "ValueError",.type "Exception",.type "BaseException",.type "object"],ns:=127,qualname := "NoEnds" },slots:=#[some (.ref 119),none,some (.str "NoEnds" 328),some (.str "NoEnds" 336),some (.builtin "ValueError.__new__"),some (.bool true)] }
def ob129:Obj:={ cls:=.type "super",data:=Data.fields #[.ref 128,.ref 128,.ref 128] }
def ob130:Obj:=oB #[.builtin "object.__init_subclass__",.ref 128]
def ob133 (P:Params):Obj:={ cls:=.type "dict",data:=Data.dict #[kE P "__module__" 351 (.str "sumcraft.errors" 187),kE P "__qualname__" 353 (.str "NoLine" 352),kE P "__firstlineno__" 355 (.int 23 354),kE P "__static_attributes__" 356 (.ref 138)] 4 }
def ob136:Obj:=oK #[.str "NoLine" 346,.str "NoLine" 347,cp 348,.int 23 0,.int 0 0,.int 0 0,.int 0 0,.int 0 0,.ref 134,.bool false,.int 181 0,.ref 135,.none,.none,.none,.none,.int 349 0,.int 23 0,cp 350]
def ob137:Obj:={ cls:=.type "frame",slots:=#[some (.ref 136),some (.ref 3),some (.ref 133),none,some (.str "sumcraft.errors" 187),none,some (.ref 0)] }
def ob139 (P:Params):Obj:={ cls:=.type "dict",data:=Data.dict #[kE P "__module__" 351 (.str "sumcraft.errors" 187),kE P "__firstlineno__" 355 (.int 23 354),kE P "__static_attributes__" 356 (.ref 138),kE P "__doc__" 357 (.none)] 2 }
def ob140:Obj:={ cls:=.type "type",data:=Data.cls { name := "NoLine",bases:=[.ref 24],mro:=[.ref 140,.ref 24,.type "ValueError",.type "Exception",.type "BaseException",.type "object"],ns:=139,qualname := "NoLine" },slots:=#[some (.ref 131),none,some (.str "NoLine" 344),some (.str "NoLine" 352),some (.builtin "ValueError.__new__"),some (.bool true)] }
def ob141:Obj:={ cls:=.type "super",data:=Data.fields #[.ref 140,.ref 140,.ref 140] }
def ob142:Obj:=oB #[.builtin "object.__init_subclass__",.ref 140]
def ob145 (P:Params):Obj:={ cls:=.type "dict",data:=Data.dict #[kE P "__module__" 367 (.str "sumcraft.errors" 187),kE P "__qualname__" 369 (.str "NoName" 368),kE P "__firstlineno__" 371 (.int 25 370),kE P "__static_attributes__" 372 (.ref 150)] 4 }
def ob148:Obj:=oK #[.str "NoName" 362,.str "NoName" 363,cp 364,.int 25 0,.int 0 0,.int 0 0,.int 0 0,.int 0 0,.ref 146,.bool false,.int 181 0,.ref 147,.none,.none,.none,.none,.int 365 0,.int 25 0,cp 366]
def ob149:Obj:={ cls:=.type "frame",slots:=#[some (.ref 148),some (.ref 3),some (.ref 145),none,some (.str "sumcraft.errors" 187),none,some (.ref 0)] }
def ob151 (P:Params):Obj:={ cls:=.type "dict",data:=Data.dict #[kE P "__module__" 367 (.str "sumcraft.errors" 187),kE P "__firstlineno__" 371 (.int 25 370),kE P "__static_attributes__" 372 (.ref 150),kE P "__doc__" 373 (.none)] 2 }
def ob152:Obj:={ cls:=.type "type",data:=Data.cls { name := "NoName",bases:=[.ref 24],mro:=[.ref 152,.ref 24,.type "ValueError",.type "Exception",.type "BaseException",.type "object"],ns:=151,qualname := "NoName" },slots:=#[some (.ref 143),none,some (.str "NoName" 360),some (.str "NoName" 368),some (.builtin "ValueError.__new__"),some (.bool true)] }
def ob153:Obj:={ cls:=.type "super",data:=Data.fields #[.ref 152,.ref 152,.ref 152] }
def ob154:Obj:=oB #[.builtin "object.__init_subclass__",.ref 152]
def ob157:Obj:=frS 385 ["big","small","cut","ahead","behind","half","upper","lower","times","rest","further"]
def ob159:Obj:=kN "shortened" "shortened" (top 15)
def ob160:Obj:=frC "shortened" "shortened" 382 30 2 3 155 true 181 396
def ob161:Obj:=kM "shortened" "shortened" (top 15) "sumcraft.ratios" 376 160
def ob164:Obj:=frS 402 ["one","other","big","small","pair","rest"]
def ob166:Obj:=kN "divisor" "divisor" (top 16)
def ob167:Obj:=frC "divisor" "divisor" 399 46 2 3 162 true 181 408
def ob168:Obj:=kM "divisor" "divisor" (top 16) "sumcraft.ratios" 376 167
def ob171:Obj:=frS 414 ["top","bottom","shared"]
def ob173:Obj:=kN "ratio" "ratio" (top 17)
def ob174:Obj:=frC "ratio" "ratio" 411 58 2 3 169 true 181 417
def ob175:Obj:=kM "ratio" "ratio" (top 17) "sumcraft.ratios" 376 174
noncomputable def frM2 (P:Params):List DictEntry:=frM1 P++[kE P "bare" 427 (.ref 180),kE P "pair_times" 441 (.ref 187),kE P "pair_of_form" 448 (.ref 194),kE P "pair_product" 457 (.ref 201),kE P "FEW" 461 (.int 16 460),kE P "form_value" 470 (.ref 208),kE P "raised" 478 (.ref 215),kE P "raised_from" 484 (.ref 220),kE P "low_forms" 492 (.ref 227),kE P "power_of" 502 (.ref 234),kE P "run_product" 513 (.ref 241),kE P "choices" 522 (.ref 248),kE P "Part" 586 (.ref 293),kE P "Choose" 665 (.ref 352),kE P "Weight" 708 (.ref 385)]
noncomputable def ob3'' (P:Params):Obj:=frD (kE P "__name__" 165 (.str "sumcraft.parts" 458)) (frM2 P) 40
def ob12''':Obj:=frL [(2,20),(4,33),(6,45),(8,57),(10,69),(15,88),(17,100),(19,112),(21,124),(23,136),(25,148),(30,160),(46,167),(58,174),(66,179),(68,186),(75,193),(77,200),(84,207),(86,214),(88,219),(90,226),(92,233),(97,240),(105,247),(108,254),(124,303),(160,360)]
def ob178:Obj:=kN "bare" "bare" (top 19)
def ob179:Obj:=oK #[.str "bare" 422,.str "bare" 423,cp 424,.int 66 0,.int 1 0,.int 0 0,.int 0 0,.int 3 0,.ref 176,.bool true,.int 181 0,.ref 177,.none,.none,.none,.ref 178,.int 425 0,.int 66 0,cp 426]
def ob180:Obj:=kM "bare" "bare" (top 19) "sumcraft.pairs" 420 179
def ob183:Obj:=frS 431 ["one","other","answer","low","number","high","factor","powers"]
def ob185:Obj:=kN "pair_times" "pair_times" (top 20)
def ob186:Obj:=frC "pair_times" "pair_times" 428 68 2 3 181 true 181 439
def ob187:Obj:=kM "pair_times" "pair_times" (top 20) "sumcraft.pairs" 420 186
def ob190:Obj:=oT #[.str "form" 445]
def ob192:Obj:=kN "pair_of_form" "pair_of_form" (top 21)
def ob193:Obj:=frC "pair_of_form" "pair_of_form" 442 75 1 3 188 true 181 446
def ob194:Obj:=kM "pair_of_form" "pair_of_form" (top 21) "sumcraft.pairs" 420 193
def ob197:Obj:=frS 452 ["pairs","answer","pair"]
def ob199:Obj:=kN "pair_product" "pair_product" (top 22)
def ob200:Obj:=frC "pair_product" "pair_product" 449 77 1 3 195 true 181 455
def ob201:Obj:=kM "pair_product" "pair_product" (top 22) "sumcraft.pairs" 420 200
def ob204:Obj:=frS 465 ["form","n","k"]
def ob206:Obj:=kN "form_value" "form_value" (top 25)
def ob207:Obj:=frC "form_value" "form_value" 462 84 3 3 202 true 181 468
def ob208:Obj:=kM "form_value" "form_value" (top 25) "sumcraft.parts" 458 207
def ob211:Obj:=frS 474 ["form","by"]
def ob213:Obj:=kN "raised" "raised" (top 26)
def ob214:Obj:=frC "raised" "raised" 471 86 2 3 209 true 181 476
def ob215:Obj:=kM "raised" "raised" (top 26) "sumcraft.parts" 458 214
def ob218:Obj:=kN "raised_from" "raised_from" (top 27)
def ob219:Obj:=oK #[.str "raised_from" 479,.str "raised_from" 480,cp 481,.int 88 0,.int 3 0,.int 0 0,.int 0 0,.int 3 0,.ref 216,.bool true,.int 181 0,.ref 217,.none,.none,.none,.ref 218,.int 482 0,.int 88 0,cp 483]
def ob220:Obj:=kM "raised_from" "raised_from" (top 27) "sumcraft.parts" 458 219
def ob223:Obj:=frS 488 ["upper","lower"]
def ob225:Obj:=kN "low_forms" "low_forms" (top 28)
def ob226:Obj:=frC "low_forms" "low_forms" 485 90 2 3 221 true 181 490
def ob227:Obj:=kM "low_forms" "low_forms" (top 28) "sumcraft.parts" 458 226
def ob230:Obj:=frS 496 ["number","exponent","answer","step"]
def ob232:Obj:=kN "power_of" "power_of" (top 29)
def ob233:Obj:=frC "power_of" "power_of" 493 92 2 3 228 true 181 500
def ob234:Obj:=kM "power_of" "power_of" (top 29) "sumcraft.parts" 458 233
def ob237:Obj:=frS 506 ["low","high","answer","number","middle"]
def ob239:Obj:=kN "run_product" "run_product" (top 30)
def ob240:Obj:=frC "run_product" "run_product" 503 97 2 3 235 true 181 511
def ob241:Obj:=kM "run_product" "run_product" (top 30) "sumcraft.parts" 458 240
def ob244:Obj:=frS 517 ["one","other","few"]
def ob246:Obj:=kN "choices" "choices" (top 31)
def ob247:Obj:=frC "choices" "choices" 514 105 2 3 242 true 181 520
def ob248:Obj:=kM "choices" "choices" (top 31) "sumcraft.parts" 458 247
def ob251 (P:Params):Obj:={ cls:=.type "dict",data:=Data.dict #[kE P "__module__" 530 (.str "sumcraft.parts" 458),kE P "__qualname__" 532 (.str "Part" 531),kE P "__firstlineno__" 534 (.int 108 533),kE P "worth" 543 (.ref 262),kE P "step" 552 (.ref 269),kE P "up" 560 (.ref 276),kE P "down" 568 (.ref 283),kE P "floor" 578 (.ref 290),kE P "__static_attributes__" 579 (.ref 291)] 9 }
def ob253:Obj:=oF #[.int 110 0,.int 4 0,.ref 261,.int 113 0,.int 4 0,.ref 268,.int 116 0,.int 4 0,.ref 275,.int 119 0,.int 4 0,.ref 282,.int 122 0,.int 4 0,.ref 289]
def ob254:Obj:=oK #[.str "Part" 525,.str "Part" 526,cp 527,.int 108 0,.int 0 0,.int 0 0,.int 0 0,.int 0 0,.ref 252,.bool false,.int 181 0,.ref 253,.none,.none,.none,.none,.int 528 0,.int 108 0,cp 529]
def ob255:Obj:={ cls:=.type "frame",slots:=#[some (.ref 254),some (.ref 3),some (.ref 251),none,some (.str "sumcraft.parts" 458),none,some (.ref 0)] }
def ob258:Obj:=frS 538 ["self","n","k"]
def ob260:Obj:=kN "worth" "Part.worth" (inCls (top 32) 0)
def ob261:Obj:=frC "worth" "Part.worth" 535 110 3 3 256 true 181 541
def ob262:Obj:=kM "worth" "Part.worth" (inCls (top 32) 0) "sumcraft.parts" 458 261
def ob265:Obj:=frS 547 ["self","i","far"]
def ob267:Obj:=kN "step" "Part.step" (inCls (top 32) 1)
def ob268:Obj:=frC "step" "Part.step" 544 113 3 3 263 true 181 550
def ob269:Obj:=kM "step" "Part.step" (inCls (top 32) 1) "sumcraft.parts" 458 268
def ob272:Obj:=frS 556 ["self","far"]
def ob274:Obj:=kN "up" "Part.up" (inCls (top 32) 2)
def ob275:Obj:=frC "up" "Part.up" 553 116 2 3 270 true 181 558
def ob276:Obj:=kM "up" "Part.up" (inCls (top 32) 2) "sumcraft.parts" 458 275
def ob279:Obj:=frS 564 ["self","far"]
def ob281:Obj:=kN "down" "Part.down" (inCls (top 32) 3)
def ob282:Obj:=frC "down" "Part.down" 561 119 2 3 277 true 181 566
def ob283:Obj:=kM "down" "Part.down" (inCls (top 32) 3) "sumcraft.parts" 458 282
def ob286:Obj:=frS 572 ["self","n","k","far"]
def ob288:Obj:=kN "floor" "Part.floor" (inCls (top 32) 4)
def ob289:Obj:=frC "floor" "Part.floor" 569 122 4 3 284 true 181 576
def ob290:Obj:=kM "floor" "Part.floor" (inCls (top 32) 4) "sumcraft.parts" 458 289
def ob292 (P:Params):Obj:={ cls:=.type "dict",data:=Data.dict #[kE P "__module__" 530 (.str "sumcraft.parts" 458),kE P "__firstlineno__" 534 (.int 108 533),kE P "worth" 543 (.ref 262),kE P "step" 552 (.ref 269),kE P "up" 560 (.ref 276),kE P "down" 568 (.ref 283),kE P "floor" 578 (.ref 290),kE P "__static_attributes__" 579 (.ref 291),kE P "__dict__" 581 (.ref 294),kE P "__weakref__" 583 (.ref 295),kE P "__doc__" 584 (.none)] 4 }
def ob293:Obj:={ cls:=.type "type",data:=Data.cls { name := "Part",bases:=[.type "object"],mro:=[.ref 293,.type "object"],ns:=292,qualname := "Part",subclasses:=[.ref 352,.ref 385] },slots:=#[none,none,some (.str "Part" 523),some (.str "Part" 531),some (.builtin "object.__new__"),some (.bool true)] }
def ob294:Obj:={ cls:=.type "getset_descriptor",data:=Data.fields #[.str "__dict__" 580,.ref 293,.builtin "function.__dict__",.builtin "function.__dict__#set"] }
def ob295:Obj:={ cls:=.type "getset_descriptor",data:=Data.fields #[.str "__weakref__" 582,.ref 293,.builtin "ExceptionGroup.__weakref__",.none] }
def ob296:Obj:={ cls:=.type "super",data:=Data.fields #[.ref 293,.ref 293,.ref 293] }
def ob297:Obj:=oB #[.builtin "object.__init_subclass__",.ref 293]
def ob298:Obj:=oT #[.ref 293]
def ob300 (P:Params):Obj:={ cls:=.type "dict",data:=Data.dict #[kE P "__module__" 594 (.str "sumcraft.parts" 458),kE P "__qualname__" 596 (.str "Choose" 595),kE P "__firstlineno__" 598 (.int 124 597),kE P "__init__" 607 (.ref 311),kE P "lifted" 613 (.ref 316),kE P "worth" 622 (.ref 323),kE P "step" 633 (.ref 330),kE P "up" 643 (.ref 337),kE P "down" 653 (.ref 344),kE P "floor" 659 (.ref 349),kE P "__static_attributes__" 662 (.ref 350)] 11 }
def ob302:Obj:=oF #[.int 126 0,.int 4 0,.ref 310,.int 130 0,.int 4 0,.ref 315,.int 133 0,.int 4 0,.ref 322,.int 136 0,.int 4 0,.ref 329,.int 142 0,.int 4 0,.ref 336,.int 148 0,.int 4 0,.ref 343,.int 154 0,.int 4 0,.ref 348]
def ob303:Obj:=oK #[.str "Choose" 589,.str "Choose" 590,cp 591,.int 124 0,.int 0 0,.int 0 0,.int 0 0,.int 0 0,.ref 301,.bool false,.int 181 0,.ref 302,.none,.none,.none,.none,.int 592 0,.int 124 0,cp 593]
def ob304:Obj:={ cls:=.type "frame",slots:=#[some (.ref 303),some (.ref 3),some (.ref 300),none,some (.str "sumcraft.parts" 458),none,some (.ref 0)] }
def ob307:Obj:=frS 602 ["self","upper","lower"]
def ob309:Obj:=kN "__init__" "Choose.__init__" (inCls (top 33) 0)
def ob310:Obj:=frC "__init__" "Choose.__init__" 599 126 3 3 305 true 181 605
def ob311:Obj:=kM "__init__" "Choose.__init__" (inCls (top 33) 0) "sumcraft.parts" 458 310
def ob314:Obj:=kN "lifted" "Choose.lifted" (inCls (top 33) 1)
def ob315:Obj:=oK #[.str "lifted" 608,.str "Choose.lifted" 609,cp 610,.int 130 0,.int 2 0,.int 0 0,.int 0 0,.int 3 0,.ref 312,.bool true,.int 181 0,.ref 313,.none,.none,.none,.ref 314,.int 611 0,.int 130 0,cp 612]
def ob316:Obj:=kM "lifted" "Choose.lifted" (inCls (top 33) 1) "sumcraft.parts" 458 315
def ob319:Obj:=frS 617 ["self","n","k"]
def ob321:Obj:=kN "worth" "Choose.worth" (inCls (top 33) 2)
def ob322:Obj:=frC "worth" "Choose.worth" 614 133 3 3 317 true 181 620
def ob323:Obj:=kM "worth" "Choose.worth" (inCls (top 33) 2) "sumcraft.parts" 458 322
def ob326:Obj:=frS 626 ["self","i","far","factors","low"]
def ob328:Obj:=kN "step" "Choose.step" (inCls (top 33) 3)
def ob329:Obj:=frC "step" "Choose.step" 623 136 3 3 324 true 181 631
def ob330:Obj:=kM "step" "Choose.step" (inCls (top 33) 3) "sumcraft.parts" 458 329
def ob333:Obj:=frS 637 ["self","far","factors","low"]
def ob335:Obj:=kN "up" "Choose.up" (inCls (top 33) 4)
def ob336:Obj:=frC "up" "Choose.up" 634 142 2 3 331 true 181 641
def ob337:Obj:=kM "up" "Choose.up" (inCls (top 33) 4) "sumcraft.parts" 458 336
def ob340:Obj:=frS 647 ["self","far","factors","low"]
def ob342:Obj:=kN "down" "Choose.down" (inCls (top 33) 5)
def ob343:Obj:=frC "down" "Choose.down" 644 148 2 3 338 true 181 651
def ob344:Obj:=kM "down" "Choose.down" (inCls (top 33) 5) "sumcraft.parts" 458 343
def ob347:Obj:=kN "floor" "Choose.floor" (inCls (top 33) 6)
def ob348:Obj:=oK #[.str "floor" 654,.str "Choose.floor" 655,cp 656,.int 154 0,.int 4 0,.int 0 0,.int 0 0,.int 3 0,.ref 345,.bool true,.int 181 0,.ref 346,.none,.none,.none,.ref 347,.int 657 0,.int 154 0,cp 658]
def ob349:Obj:=kM "floor" "Choose.floor" (inCls (top 33) 6) "sumcraft.parts" 458 348
def ob350:Obj:=frS 660 ["above","lows"]
def ob351 (P:Params):Obj:={ cls:=.type "dict",data:=Data.dict #[kE P "__module__" 594 (.str "sumcraft.parts" 458),kE P "__firstlineno__" 598 (.int 124 597),kE P "__init__" 607 (.ref 311),kE P "lifted" 613 (.ref 316),kE P "worth" 622 (.ref 323),kE P "step" 633 (.ref 330),kE P "up" 643 (.ref 337),kE P "down" 653 (.ref 344),kE P "floor" 659 (.ref 349),kE P "__static_attributes__" 662 (.ref 350),kE P "__doc__" 663 (.none)] 2 }
def ob352:Obj:={ cls:=.type "type",data:=Data.cls { name := "Choose",bases:=[.ref 293],mro:=[.ref 352,.ref 293,.type "object"],ns:=351,qualname := "Choose" },slots:=#[some (.ref 298),none,some (.str "Choose" 587),some (.str "Choose" 595),some (.builtin "object.__new__"),some (.bool true)] }
def ob353:Obj:={ cls:=.type "super",data:=Data.fields #[.ref 352,.ref 352,.ref 352] }
def ob354:Obj:=oB #[.builtin "object.__init_subclass__",.ref 352]
def ob357 (P:Params):Obj:={ cls:=.type "dict",data:=Data.dict #[kE P "__module__" 673 (.str "sumcraft.parts" 458),kE P "__qualname__" 675 (.str "Weight" 674),kE P "__firstlineno__" 677 (.int 160 676),kE P "__init__" 685 (.ref 368),kE P "worth" 694 (.ref 375),kE P "step" 703 (.ref 382),kE P "__static_attributes__" 705 (.ref 383)] 7 }
def ob359:Obj:=oF #[.int 162 0,.int 4 0,.ref 367,.int 165 0,.int 4 0,.ref 374,.int 168 0,.int 4 0,.ref 381]
def ob360:Obj:=oK #[.str "Weight" 668,.str "Weight" 669,cp 670,.int 160 0,.int 0 0,.int 0 0,.int 0 0,.int 0 0,.ref 358,.bool false,.int 181 0,.ref 359,.none,.none,.none,.none,.int 671 0,.int 160 0,cp 672]
def ob361:Obj:={ cls:=.type "frame",slots:=#[some (.ref 360),some (.ref 3),some (.ref 357),none,some (.str "sumcraft.parts" 458),none,some (.ref 0)] }
def ob364:Obj:=frS 681 ["self","form"]
def ob366:Obj:=kN "__init__" "Weight.__init__" (inCls (top 34) 0)
def ob367:Obj:=frC "__init__" "Weight.__init__" 678 162 2 3 362 true 181 683
def ob368:Obj:=kM "__init__" "Weight.__init__" (inCls (top 34) 0) "sumcraft.parts" 458 367
def ob371:Obj:=frS 689 ["self","n","k"]
def ob373:Obj:=kN "worth" "Weight.worth" (inCls (top 34) 1)
def ob374:Obj:=frC "worth" "Weight.worth" 686 165 3 3 369 true 181 692
def ob375:Obj:=kM "worth" "Weight.worth" (inCls (top 34) 1) "sumcraft.parts" 458 374
def ob378:Obj:=frS 698 ["self","i","far"]
def ob380:Obj:=kN "step" "Weight.step" (inCls (top 34) 2)
def ob381:Obj:=frC "step" "Weight.step" 695 168 3 3 376 true 181 701
def ob382:Obj:=kM "step" "Weight.step" (inCls (top 34) 2) "sumcraft.parts" 458 381
def ob383:Obj:=oT #[.str "form" 704]
def ob384 (P:Params):Obj:={ cls:=.type "dict",data:=Data.dict #[kE P "__module__" 673 (.str "sumcraft.parts" 458),kE P "__firstlineno__" 677 (.int 160 676),kE P "__init__" 685 (.ref 368),kE P "worth" 694 (.ref 375),kE P "step" 703 (.ref 382),kE P "__static_attributes__" 705 (.ref 383),kE P "__doc__" 706 (.none)] 2 }
def ob385:Obj:={ cls:=.type "type",data:=Data.cls { name := "Weight",bases:=[.ref 293],mro:=[.ref 385,.ref 293,.type "object"],ns:=384,qualname := "Weight" },slots:=#[some (.ref 355),none,some (.str "Weight" 666),some (.str "Weight" 674),some (.builtin "object.__new__"),some (.bool true)] }
def ob386:Obj:={ cls:=.type "super",data:=Data.fields #[.ref 385,.ref 385,.ref 385] }
def ob387:Obj:=oB #[.builtin "object.__init_subclass__",.ref 385]
noncomputable def frM3 (P:Params):List DictEntry:=frM2 P++[kE P "Power" 768 (.ref 432),kE P "Growth" 821 (.ref 472),kE P "MOST_PARTS" 825 (.int 6 824),kE P "UPPER_LEAST" 829 (.ref 475),kE P "LOWER_LEAST" 836 (.ref 476),kE P "GREATEST" 840 (.ref 477),kE P "within" 846 (.ref 482),kE P "check_choose" 855 (.ref 489),kE P "check_base" 862 (.ref 496),kE P "piece_of" 869 (.ref 503),kE P "product" 881 (.ref 510),kE P "Term" 934 (.ref 547)]
noncomputable def ob3''' (P:Params):Obj:=frD (kE P "__name__" 165 (.str "sumcraft.terms" 822)) (frM3 P) 52
def ob12'''':Obj:=frL [(2,20),(4,33),(6,45),(8,57),(10,69),(15,88),(17,100),(19,112),(21,124),(23,136),(25,148),(30,160),(46,167),(58,174),(66,179),(68,186),(75,193),(77,200),(84,207),(86,214),(88,219),(90,226),(92,233),(97,240),(105,247),(108,254),(124,303),(160,360),(170,393),(186,440),(204,481),(206,488),(212,495),(215,502),(228,509),(237,516)]
def ob293':Obj:={ cls:=.type "type",data:=Data.cls { name := "Part",bases:=[.type "object"],mro:=[.ref 293,.type "object"],ns:=292,qualname := "Part",subclasses:=[.ref 352,.ref 385,.ref 432,.ref 472] },slots:=#[none,none,some (.str "Part" 523),some (.str "Part" 531),some (.builtin "object.__new__"),some (.bool true)] }
def ob390 (P:Params):Obj:={ cls:=.type "dict",data:=Data.dict #[kE P "__module__" 716 (.str "sumcraft.parts" 458),kE P "__qualname__" 718 (.str "Power" 717),kE P "__firstlineno__" 720 (.int 170 719),kE P "__init__" 728 (.ref 401),kE P "worth" 737 (.ref 408),kE P "up" 745 (.ref 415),kE P "down" 753 (.ref 422),kE P "floor" 763 (.ref 429),kE P "__static_attributes__" 765 (.ref 430)] 9 }
def ob392:Obj:=oF #[.int 172 0,.int 4 0,.ref 400,.int 175 0,.int 4 0,.ref 407,.int 178 0,.int 4 0,.ref 414,.int 181 0,.int 4 0,.ref 421,.int 184 0,.int 4 0,.ref 428]
def ob393:Obj:=oK #[.str "Power" 711,.str "Power" 712,cp 713,.int 170 0,.int 0 0,.int 0 0,.int 0 0,.int 0 0,.ref 391,.bool false,.int 181 0,.ref 392,.none,.none,.none,.none,.int 714 0,.int 170 0,cp 715]
def ob394:Obj:={ cls:=.type "frame",slots:=#[some (.ref 393),some (.ref 3),some (.ref 390),none,some (.str "sumcraft.parts" 458),none,some (.ref 0)] }
def ob397:Obj:=frS 724 ["self","fraction"]
def ob399:Obj:=kN "__init__" "Power.__init__" (inCls (top 35) 0)
def ob400:Obj:=frC "__init__" "Power.__init__" 721 172 2 3 395 true 181 726
def ob401:Obj:=kM "__init__" "Power.__init__" (inCls (top 35) 0) "sumcraft.parts" 458 400
def ob404:Obj:=frS 732 ["self","n","k"]
def ob406:Obj:=kN "worth" "Power.worth" (inCls (top 35) 1)
def ob407:Obj:=frC "worth" "Power.worth" 729 175 3 3 402 true 181 735
def ob408:Obj:=kM "worth" "Power.worth" (inCls (top 35) 1) "sumcraft.parts" 458 407
def ob411:Obj:=frS 741 ["self","far"]
def ob413:Obj:=kN "up" "Power.up" (inCls (top 35) 2)
def ob414:Obj:=frC "up" "Power.up" 738 178 2 3 409 true 181 743
def ob415:Obj:=kM "up" "Power.up" (inCls (top 35) 2) "sumcraft.parts" 458 414
def ob418:Obj:=frS 749 ["self","far"]
def ob420:Obj:=kN "down" "Power.down" (inCls (top 35) 3)
def ob421:Obj:=frC "down" "Power.down" 746 181 2 3 416 true 181 751
def ob422:Obj:=kM "down" "Power.down" (inCls (top 35) 3) "sumcraft.parts" 458 421
def ob425:Obj:=frS 757 ["self","n","k","far"]
def ob427:Obj:=kN "floor" "Power.floor" (inCls (top 35) 4)
def ob428:Obj:=frC "floor" "Power.floor" 754 184 4 3 423 true 181 761
def ob429:Obj:=kM "floor" "Power.floor" (inCls (top 35) 4) "sumcraft.parts" 458 428
def ob430:Obj:=oT #[.str "fraction" 764]
def ob431 (P:Params):Obj:={ cls:=.type "dict",data:=Data.dict #[kE P "__module__" 716 (.str "sumcraft.parts" 458),kE P "__firstlineno__" 720 (.int 170 719),kE P "__init__" 728 (.ref 401),kE P "worth" 737 (.ref 408),kE P "up" 745 (.ref 415),kE P "down" 753 (.ref 422),kE P "floor" 763 (.ref 429),kE P "__static_attributes__" 765 (.ref 430),kE P "__doc__" 766 (.none)] 2 }
def ob432:Obj:={ cls:=.type "type",data:=Data.cls { name := "Power",bases:=[.ref 293],mro:=[.ref 432,.ref 293,.type "object"],ns:=431,qualname := "Power" },slots:=#[some (.ref 388),none,some (.str "Power" 709),some (.str "Power" 717),some (.builtin "object.__new__"),some (.bool true)] }
def ob433:Obj:={ cls:=.type "super",data:=Data.fields #[.ref 432,.ref 432,.ref 432] }
def ob434:Obj:=oB #[.builtin "object.__init_subclass__",.ref 432]
def ob437 (P:Params):Obj:={ cls:=.type "dict",data:=Data.dict #[kE P "__module__" 776 (.str "sumcraft.parts" 458),kE P "__qualname__" 778 (.str "Growth" 777),kE P "__firstlineno__" 780 (.int 186 779),kE P "__init__" 788 (.ref 448),kE P "worth" 797 (.ref 455),kE P "step" 806 (.ref 462),kE P "floor" 816 (.ref 469),kE P "__static_attributes__" 818 (.ref 470)] 8 }
def ob439:Obj:=oF #[.int 188 0,.int 4 0,.ref 447,.int 191 0,.int 4 0,.ref 454,.int 194 0,.int 4 0,.ref 461,.int 197 0,.int 4 0,.ref 468]
def ob440:Obj:=oK #[.str "Growth" 771,.str "Growth" 772,cp 773,.int 186 0,.int 0 0,.int 0 0,.int 0 0,.int 0 0,.ref 438,.bool false,.int 181 0,.ref 439,.none,.none,.none,.none,.int 774 0,.int 186 0,cp 775]
def ob441:Obj:={ cls:=.type "frame",slots:=#[some (.ref 440),some (.ref 3),some (.ref 437),none,some (.str "sumcraft.parts" 458),none,some (.ref 0)] }
def ob444:Obj:=frS 784 ["self","fraction"]
def ob446:Obj:=kN "__init__" "Growth.__init__" (inCls (top 36) 0)
def ob447:Obj:=frC "__init__" "Growth.__init__" 781 188 2 3 442 true 181 786
def ob448:Obj:=kM "__init__" "Growth.__init__" (inCls (top 36) 0) "sumcraft.parts" 458 447
def ob451:Obj:=frS 792 ["self","n","k"]
def ob453:Obj:=kN "worth" "Growth.worth" (inCls (top 36) 1)
def ob454:Obj:=frC "worth" "Growth.worth" 789 191 3 3 449 true 181 795
def ob455:Obj:=kM "worth" "Growth.worth" (inCls (top 36) 1) "sumcraft.parts" 458 454
def ob458:Obj:=frS 801 ["self","i","far"]
def ob460:Obj:=kN "step" "Growth.step" (inCls (top 36) 2)
def ob461:Obj:=frC "step" "Growth.step" 798 194 3 3 456 true 181 804
def ob462:Obj:=kM "step" "Growth.step" (inCls (top 36) 2) "sumcraft.parts" 458 461
def ob465:Obj:=frS 810 ["self","n","k","far"]
def ob467:Obj:=kN "floor" "Growth.floor" (inCls (top 36) 3)
def ob468:Obj:=frC "floor" "Growth.floor" 807 197 4 3 463 true 181 814
def ob469:Obj:=kM "floor" "Growth.floor" (inCls (top 36) 3) "sumcraft.parts" 458 468
def ob470:Obj:=oT #[.str "fraction" 817]
def ob471 (P:Params):Obj:={ cls:=.type "dict",data:=Data.dict #[kE P "__module__" 776 (.str "sumcraft.parts" 458),kE P "__firstlineno__" 780 (.int 186 779),kE P "__init__" 788 (.ref 448),kE P "worth" 797 (.ref 455),kE P "step" 806 (.ref 462),kE P "floor" 816 (.ref 469),kE P "__static_attributes__" 818 (.ref 470),kE P "__doc__" 819 (.none)] 2 }
def ob472:Obj:={ cls:=.type "type",data:=Data.cls { name := "Growth",bases:=[.ref 293],mro:=[.ref 472,.ref 293,.type "object"],ns:=471,qualname := "Growth" },slots:=#[some (.ref 435),none,some (.str "Growth" 769),some (.str "Growth" 777),some (.builtin "object.__new__"),some (.bool true)] }
def ob473:Obj:={ cls:=.type "super",data:=Data.fields #[.ref 472,.ref 472,.ref 472] }
def ob474:Obj:=oB #[.builtin "object.__init_subclass__",.ref 472]
def ob475:Obj:=oT #[.int 0 826,.int 0 827,.int 0 828]
def ob476:Obj:=oT #[.int (-3) 831,.int (-3) 833,.int (-9) 835]
def ob477:Obj:=oT #[.int 3 837,.int 3 838,.int 9 839]
def ob480:Obj:=kN "within" "within" (top 42)
def ob481:Obj:=oK #[.str "within" 841,.str "within" 842,cp 843,.int 204 0,.int 2 0,.int 0 0,.int 0 0,.int 3 0,.ref 478,.bool true,.int 181 0,.ref 479,.none,.none,.none,.ref 480,.int 844 0,.int 204 0,cp 845]
def ob482:Obj:=kM "within" "within" (top 42) "sumcraft.terms" 822 481
def ob485:Obj:=frS 850 ["upper","lower","low"]
def ob487:Obj:=kN "check_choose" "check_choose" (top 43)
def ob488:Obj:=frC "check_choose" "check_choose" 847 206 2 3 483 true 181 853
def ob489:Obj:=kM "check_choose" "check_choose" (top 43) "sumcraft.terms" 822 488
def ob492:Obj:=oT #[.str "fraction" 859]
def ob494:Obj:=kN "check_base" "check_base" (top 44)
def ob495:Obj:=frC "check_base" "check_base" 856 212 1 3 490 true 181 860
def ob496:Obj:=kM "check_base" "check_base" (top 44) "sumcraft.terms" 822 495
def ob499:Obj:=oT #[.str "part" 866]
def ob501:Obj:=kN "piece_of" "piece_of" (top 45)
def ob502:Obj:=frC "piece_of" "piece_of" 863 215 1 3 497 true 181 867
def ob503:Obj:=kM "piece_of" "piece_of" (top 45) "sumcraft.terms" 822 502
def ob506:Obj:=frS 873 ["fractions","top","bottom","fraction","left","right"]
def ob508:Obj:=kN "product" "product" (top 46)
def ob509:Obj:=frC "product" "product" 870 228 1 3 504 true 181 879
def ob510:Obj:=kM "product" "product" (top 46) "sumcraft.terms" 822 509
def ob513 (P:Params):Obj:={ cls:=.type "dict",data:=Data.dict #[kE P "__module__" 889 (.str "sumcraft.terms" 822),kE P "__qualname__" 891 (.str "Term" 890),kE P "__firstlineno__" 893 (.int 237 892),kE P "__init__" 899 (.ref 522),kE P "told" 906 (.ref 529),kE P "worth" 912 (.ref 534),kE P "floor" 918 (.ref 539),kE P "frame" 924 (.ref 544),kE P "__static_attributes__" 927 (.ref 545)] 9 }
def ob515:Obj:=oF #[.int 239 0,.int 4 0,.ref 521,.int 245 0,.int 4 0,.ref 528,.int 248 0,.int 4 0,.ref 533,.int 251 0,.int 4 0,.ref 538,.int 254 0,.int 4 0,.ref 543]
def ob516:Obj:=oK #[.str "Term" 884,.str "Term" 885,cp 886,.int 237 0,.int 0 0,.int 0 0,.int 0 0,.int 0 0,.ref 514,.bool false,.int 181 0,.ref 515,.none,.none,.none,.none,.int 887 0,.int 237 0,cp 888]
def ob517:Obj:={ cls:=.type "frame",slots:=#[some (.ref 516),some (.ref 3),some (.ref 513),none,some (.str "sumcraft.terms" 822),none,some (.ref 0)] }
def ob520:Obj:=kN "__init__" "Term.__init__" (inCls (top 47) 0)
def ob521:Obj:=oK #[.str "__init__" 894,.str "Term.__init__" 895,cp 896,.int 239 0,.int 2 0,.int 0 0,.int 0 0,.int 3 0,.ref 518,.bool true,.int 181 0,.ref 519,.none,.none,.none,.ref 520,.int 897 0,.int 239 0,cp 898]
def ob522:Obj:=kM "__init__" "Term.__init__" (inCls (top 47) 0) "sumcraft.terms" 822 521
def ob525:Obj:=oT #[.str "self" 903]
def ob527:Obj:=kN "told" "Term.told" (inCls (top 47) 1)
def ob528:Obj:=frC "told" "Term.told" 900 245 1 3 523 true 181 904
def ob529:Obj:=kM "told" "Term.told" (inCls (top 47) 1) "sumcraft.terms" 822 528
def ob532:Obj:=kN "worth" "Term.worth" (inCls (top 47) 2)
def ob533:Obj:=oK #[.str "worth" 907,.str "Term.worth" 908,cp 909,.int 248 0,.int 3 0,.int 0 0,.int 0 0,.int 3 0,.ref 530,.bool true,.int 181 0,.ref 531,.none,.none,.none,.ref 532,.int 910 0,.int 248 0,cp 911]
def ob534:Obj:=kM "worth" "Term.worth" (inCls (top 47) 2) "sumcraft.terms" 822 533
def ob537:Obj:=kN "floor" "Term.floor" (inCls (top 47) 3)
def ob538:Obj:=oK #[.str "floor" 913,.str "Term.floor" 914,cp 915,.int 251 0,.int 4 0,.int 0 0,.int 0 0,.int 3 0,.ref 535,.bool true,.int 181 0,.ref 536,.none,.none,.none,.ref 537,.int 916 0,.int 251 0,cp 917]
def ob539:Obj:=kM "floor" "Term.floor" (inCls (top 47) 3) "sumcraft.terms" 822 538
def ob542:Obj:=kN "frame" "Term.frame" (inCls (top 47) 4)
def ob543:Obj:=oK #[.str "frame" 919,.str "Term.frame" 920,cp 921,.int 254 0,.int 2 0,.int 0 0,.int 0 0,.int 3 0,.ref 540,.bool true,.int 181 0,.ref 541,.none,.none,.none,.ref 542,.int 922 0,.int 254 0,cp 923]
def ob544:Obj:=kM "frame" "Term.frame" (inCls (top 47) 4) "sumcraft.terms" 822 543
def ob545:Obj:=frS 925 ["parts","pieces"]
def ob546 (P:Params):Obj:={ cls:=.type "dict",data:=Data.dict #[kE P "__module__" 889 (.str "sumcraft.terms" 822),kE P "__firstlineno__" 893 (.int 237 892),kE P "__init__" 899 (.ref 522),kE P "told" 906 (.ref 529),kE P "worth" 912 (.ref 534),kE P "floor" 918 (.ref 539),kE P "frame" 924 (.ref 544),kE P "__static_attributes__" 927 (.ref 545),kE P "__dict__" 929 (.ref 548),kE P "__weakref__" 931 (.ref 549),kE P "__doc__" 932 (.none)] 4 }
def ob547:Obj:={ cls:=.type "type",data:=Data.cls { name := "Term",bases:=[.type "object"],mro:=[.ref 547,.type "object"],ns:=546,qualname := "Term" },slots:=#[none,none,some (.str "Term" 882),some (.str "Term" 890),some (.builtin "object.__new__"),some (.bool true)] }
def ob548:Obj:={ cls:=.type "getset_descriptor",data:=Data.fields #[.str "__dict__" 928,.ref 547,.builtin "function.__dict__",.builtin "function.__dict__#set"] }
def ob549:Obj:={ cls:=.type "getset_descriptor",data:=Data.fields #[.str "__weakref__" 930,.ref 547,.builtin "ExceptionGroup.__weakref__",.none] }
def ob550:Obj:={ cls:=.type "super",data:=Data.fields #[.ref 547,.ref 547,.ref 547] }
def ob551:Obj:=oB #[.builtin "object.__init_subclass__",.ref 547]
noncomputable def frM4 (P:Params):List DictEntry:=frM3 P++[kE P "FIGURES" 938 (.str "0123456789" 937),kE P "MOST_FIGURES" 940 (.int 60 939),kE P "BETWEEN_PARTS" 942 (.str " * " 941),kE P "BETWEEN_FORMS" 944 (.str ", " 943),kE P "LETTERS" 948 (.ref 552),kE P "show_ratio" 955 (.ref 559),kE P "show_counted" 963 (.ref 566),kE P "show_form" 974 (.ref 573),kE P "read_whole" 980 (.ref 578),kE P "read_ratio" 991 (.ref 585),kE P "read_counted" 999 (.ref 592),kE P "read_form" 1011 (.ref 599),kE P "read_choose" 1017 (.ref 604),kE P "read_part" 1025 (.ref 611),kE P "read_term" 1031 (.ref 616),kE P "_law_cell_at" 1041 (.ref 623),kE P "_law_number" 1049 (.ref 630),kE P "_law_divisor" 1058 (.ref 637),kE P "_law_mixed" 1068 (.ref 644),kE P "_law_forms" 1079 (.ref 651),kE P "_law_ratio" 1091 (.ref 658),kE P "_law_part" 1097 (.ref 663),kE P "_law_parts" 1103 (.ref 668),kE P "_law_form_text" 1113 (.ref 675),kE P "_law_ratio_text" 1119 (.ref 680),kE P "_law_part_text" 1126 (.ref 687),kE P "_law_is" 1132 (.ref 692),kE P "_law_changed" 1146 (.ref 699),kE P "_law_odd" 1154 (.ref 706),kE P "_law_whole_of" 1163 (.ref 713),kE P "_law_form_of" 1176 (.ref 720),kE P "_law_ratio_of" 1182 (.ref 725),kE P "_law_is_choose" 1190 (.ref 732),kE P "_law_part_of" 1202 (.ref 739),kE P "_law_judged" 1208 (.ref 744),kE P "law" 1214 (.ref 749)]
noncomputable def ob3'''' (P:Params):Obj:=frD (kE P "__name__" 165 (.str "law_sumcraft_k58_texts_read_or_refused" 1032)) (frM4 P) 88
def ob12''''':Obj:=frL [(2,20),(4,33),(6,45),(8,57),(10,69),(15,88),(17,100),(19,112),(21,124),(23,136),(25,148),(30,160),(46,167),(58,174),(66,179),(68,186),(75,193),(77,200),(84,207),(86,214),(88,219),(90,226),(92,233),(97,240),(105,247),(108,254),(124,303),(160,360),(170,393),(186,440),(204,481),(206,488),(212,495),(215,502),(228,509),(237,516),(265,558),(269,565),(273,572),(280,577),(288,584),(296,591),(302,598),(314,603),(319,610),(330,615),(336,622),(340,629),(346,636),(354,643),(363,650),(374,657),(382,662),(391,667),(399,674),(412,679),(414,686),(420,691),(428,698),(444,705),(455,712),(465,719),(483,724),(492,731),(498,738),(517,743),(529,748)]
def ob552:Obj:=frS 945 ["n","k",""]
def ob555:Obj:=oT #[.str "fraction" 952]
def ob557:Obj:=kN "show_ratio" "show_ratio" (top 54)
def ob558:Obj:=frC "show_ratio" "show_ratio" 949 265 1 3 553 true 181 953
def ob559:Obj:=kM "show_ratio" "show_ratio" (top 54) "sumcraft.texts" 935 558
def ob562:Obj:=frS 959 ["number","letter"]
def ob564:Obj:=kN "show_counted" "show_counted" (top 55)
def ob565:Obj:=frC "show_counted" "show_counted" 956 269 2 3 560 true 181 961
def ob566:Obj:=kM "show_counted" "show_counted" (top 55) "sumcraft.texts" 935 565
def ob569:Obj:=frS 967 ["form","answer","number","letter","sign"]
def ob571:Obj:=kN "show_form" "show_form" (top 56)
def ob572:Obj:=frC "show_form" "show_form" 964 273 1 3 567 true 181 972
def ob573:Obj:=kM "show_form" "show_form" (top 56) "sumcraft.texts" 935 572
def ob576:Obj:=kN "read_whole" "read_whole" (top 57)
def ob577:Obj:=oK #[.str "read_whole" 975,.str "read_whole" 976,cp 977,.int 280 0,.int 1 0,.int 0 0,.int 0 0,.int 3 0,.ref 574,.bool true,.int 181 0,.ref 575,.none,.none,.none,.ref 576,.int 978 0,.int 280 0,cp 979]
def ob578:Obj:=kM "read_whole" "read_whole" (top 57) "sumcraft.texts" 935 577
def ob581:Obj:=frS 984 ["text","halves","top","bottom","fraction"]
def ob583:Obj:=kN "read_ratio" "read_ratio" (top 58)
def ob584:Obj:=frC "read_ratio" "read_ratio" 981 288 1 3 579 true 181 989
def ob585:Obj:=kM "read_ratio" "read_ratio" (top 58) "sumcraft.texts" 935 584
def ob588:Obj:=frS 995 ["text","letter"]
def ob590:Obj:=kN "read_counted" "read_counted" (top 59)
def ob591:Obj:=frC "read_counted" "read_counted" 992 296 2 3 586 true 181 997
def ob592:Obj:=kM "read_counted" "read_counted" (top 59) "sumcraft.texts" 935 591
def ob595:Obj:=frS 1003 ["text","numbers","piece","letter","number","form"]
def ob597:Obj:=kN "read_form" "read_form" (top 60)
def ob598:Obj:=frC "read_form" "read_form" 1000 302 1 3 593 true 181 1009
def ob599:Obj:=kM "read_form" "read_form" (top 60) "sumcraft.texts" 935 598
def ob602:Obj:=kN "read_choose" "read_choose" (top 61)
def ob603:Obj:=oK #[.str "read_choose" 1012,.str "read_choose" 1013,cp 1014,.int 314 0,.int 1 0,.int 0 0,.int 0 0,.int 3 0,.ref 600,.bool true,.int 181 0,.ref 601,.none,.none,.none,.ref 602,.int 1015 0,.int 314 0,cp 1016]
def ob604:Obj:=kM "read_choose" "read_choose" (top 61) "sumcraft.texts" 935 603
def ob607:Obj:=frS 1021 ["text","part"]
def ob609:Obj:=kN "read_part" "read_part" (top 62)
def ob610:Obj:=frC "read_part" "read_part" 1018 319 1 3 605 true 181 1023
def ob611:Obj:=kM "read_part" "read_part" (top 62) "sumcraft.texts" 935 610
def ob614:Obj:=kN "read_term" "read_term" (top 63)
def ob615:Obj:=oK #[.str "read_term" 1026,.str "read_term" 1027,cp 1028,.int 330 0,.int 1 0,.int 0 0,.int 0 0,.int 3 0,.ref 612,.bool true,.int 181 0,.ref 613,.none,.none,.none,.ref 614,.int 1029 0,.int 330 0,cp 1030]
def ob616:Obj:=kM "read_term" "read_term" (top 63) "sumcraft.texts" 935 615
def ob619:Obj:=frS 1037 ["_law_script","_law_k"]
def ob621:Obj:=kN "_law_cell_at" "_law_cell_at" (top 65)
def ob622:Obj:=frC "_law_cell_at" "_law_cell_at" 1034 336 2 3 617 true 181 1039
def ob623:Obj:=kM "_law_cell_at" "_law_cell_at" (top 65) "law_sumcraft_k58_texts_read_or_refused" 1032 622
def ob626:Obj:=frS 1045 ["_law_cell","_law_most"]
def ob628:Obj:=kN "_law_number" "_law_number" (top 66)
def ob629:Obj:=frC "_law_number" "_law_number" 1042 340 2 3 624 true 181 1047
def ob630:Obj:=kM "_law_number" "_law_number" (top 66) "law_sumcraft_k58_texts_read_or_refused" 1032 629
def ob633:Obj:=frS 1053 ["_law_one","_law_other","_law_rest"]
def ob635:Obj:=kN "_law_divisor" "_law_divisor" (top 67)
def ob636:Obj:=frC "_law_divisor" "_law_divisor" 1050 346 2 3 631 true 181 1056
def ob637:Obj:=kM "_law_divisor" "_law_divisor" (top 67) "law_sumcraft_k58_texts_read_or_refused" 1032 636
def ob640:Obj:=frS 1062 ["_law_cell","_law_k","_law_number_here","_law_time"]
def ob642:Obj:=kN "_law_mixed" "_law_mixed" (top 68)
def ob643:Obj:=frC "_law_mixed" "_law_mixed" 1059 354 2 3 638 true 181 1066
def ob644:Obj:=kM "_law_mixed" "_law_mixed" (top 68) "law_sumcraft_k58_texts_read_or_refused" 1032 643
def ob647:Obj:=frS 1072 ["_law_one","_law_other","_law_most","_law_high","_law_low"]
def ob649:Obj:=kN "_law_forms" "_law_forms" (top 69)
def ob650:Obj:=frC "_law_forms" "_law_forms" 1069 363 3 3 645 true 181 1077
def ob651:Obj:=kM "_law_forms" "_law_forms" (top 69) "law_sumcraft_k58_texts_read_or_refused" 1032 650
def ob654:Obj:=frS 1083 ["_law_one","_law_other","_law_top","_law_number_here","_law_bottom","_law_by"]
def ob656:Obj:=kN "_law_ratio" "_law_ratio" (top 70)
def ob657:Obj:=frC "_law_ratio" "_law_ratio" 1080 374 2 3 652 true 181 1089
def ob658:Obj:=kM "_law_ratio" "_law_ratio" (top 70) "law_sumcraft_k58_texts_read_or_refused" 1032 657
def ob661:Obj:=kN "_law_part" "_law_part" (top 71)
def ob662:Obj:=oK #[.str "_law_part" 1092,.str "_law_part" 1093,cp 1094,.int 382 0,.int 2 0,.int 0 0,.int 0 0,.int 3 0,.ref 659,.bool true,.int 181 0,.ref 660,.none,.none,.none,.ref 661,.int 1095 0,.int 382 0,cp 1096]
def ob663:Obj:=kM "_law_part" "_law_part" (top 71) "law_sumcraft_k58_texts_read_or_refused" 1032 662
def ob666:Obj:=kN "_law_parts" "_law_parts" (top 72)
def ob667:Obj:=oK #[.str "_law_parts" 1098,.str "_law_parts" 1099,cp 1100,.int 391 0,.int 2 0,.int 0 0,.int 0 0,.int 3 0,.ref 664,.bool true,.int 181 0,.ref 665,.none,.none,.none,.ref 666,.int 1101 0,.int 391 0,cp 1102]
def ob668:Obj:=kM "_law_parts" "_law_parts" (top 72) "law_sumcraft_k58_texts_read_or_refused" 1032 667
def ob671:Obj:=frS 1107 ["_law_form","_law_words","_law_k","_law_word"]
def ob673:Obj:=kN "_law_form_text" "_law_form_text" (top 73)
def ob674:Obj:=frC "_law_form_text" "_law_form_text" 1104 399 1 3 669 true 181 1111
def ob675:Obj:=kM "_law_form_text" "_law_form_text" (top 73) "law_sumcraft_k58_texts_read_or_refused" 1032 674
def ob678:Obj:=kN "_law_ratio_text" "_law_ratio_text" (top 74)
def ob679:Obj:=oK #[.str "_law_ratio_text" 1114,.str "_law_ratio_text" 1115,cp 1116,.int 412 0,.int 1 0,.int 0 0,.int 0 0,.int 3 0,.ref 676,.bool true,.int 181 0,.ref 677,.none,.none,.none,.ref 678,.int 1117 0,.int 412 0,cp 1118]
def ob680:Obj:=kM "_law_ratio_text" "_law_ratio_text" (top 74) "law_sumcraft_k58_texts_read_or_refused" 1032 679
def ob683:Obj:=oT #[.str "_law_part_here" 1123]
def ob685:Obj:=kN "_law_part_text" "_law_part_text" (top 75)
def ob686:Obj:=frC "_law_part_text" "_law_part_text" 1120 414 1 3 681 true 181 1124
def ob687:Obj:=kM "_law_part_text" "_law_part_text" (top 75) "law_sumcraft_k58_texts_read_or_refused" 1032 686
def ob690:Obj:=kN "_law_is" "_law_is" (top 76)
def ob691:Obj:=oK #[.str "_law_is" 1127,.str "_law_is" 1128,cp 1129,.int 420 0,.int 2 0,.int 0 0,.int 0 0,.int 3 0,.ref 688,.bool true,.int 181 0,.ref 689,.none,.none,.none,.ref 690,.int 1130 0,.int 420 0,cp 1131]
def ob692:Obj:=kM "_law_is" "_law_is" (top 76) "law_sumcraft_k58_texts_read_or_refused" 1032 691
def ob695:Obj:=frS 1136 ["_law_line","_law_script","_law_signs","_law_k","_law_number_here","_law_at","_law_sign","_law_two"]
def ob697:Obj:=kN "_law_changed" "_law_changed" (top 77)
def ob698:Obj:=frC "_law_changed" "_law_changed" 1133 428 2 3 693 true 181 1144
def ob699:Obj:=kM "_law_changed" "_law_changed" (top 77) "law_sumcraft_k58_texts_read_or_refused" 1032 698
def ob702:Obj:=frS 1150 ["_law_cell","_law_some"]
def ob704:Obj:=kN "_law_odd" "_law_odd" (top 78)
def ob705:Obj:=frC "_law_odd" "_law_odd" 1147 444 1 3 700 true 181 1152
def ob706:Obj:=kM "_law_odd" "_law_odd" (top 78) "law_sumcraft_k58_texts_read_or_refused" 1032 705
def ob709:Obj:=frS 1158 ["_law_line","_law_figures","_law_sign"]
def ob711:Obj:=kN "_law_whole_of" "_law_whole_of" (top 79)
def ob712:Obj:=frC "_law_whole_of" "_law_whole_of" 1155 455 1 3 707 true 181 1161
def ob713:Obj:=kM "_law_whole_of" "_law_whole_of" (top 79) "law_sumcraft_k58_texts_read_or_refused" 1032 712
def ob716:Obj:=frS 1167 ["_law_line","_law_numbers","_law_word","_law_sign","_law_k","_law_body","_law_number_here"]
def ob718:Obj:=kN "_law_form_of" "_law_form_of" (top 80)
def ob719:Obj:=frC "_law_form_of" "_law_form_of" 1164 465 1 3 714 true 181 1174
def ob720:Obj:=kM "_law_form_of" "_law_form_of" (top 80) "law_sumcraft_k58_texts_read_or_refused" 1032 719
def ob723:Obj:=kN "_law_ratio_of" "_law_ratio_of" (top 81)
def ob724:Obj:=oK #[.str "_law_ratio_of" 1177,.str "_law_ratio_of" 1178,cp 1179,.int 483 0,.int 1 0,.int 0 0,.int 0 0,.int 3 0,.ref 721,.bool true,.int 181 0,.ref 722,.none,.none,.none,.ref 723,.int 1180 0,.int 483 0,cp 1181]
def ob725:Obj:=kM "_law_ratio_of" "_law_ratio_of" (top 81) "law_sumcraft_k58_texts_read_or_refused" 1032 724
def ob728:Obj:=frS 1186 ["_law_high","_law_low"]
def ob730:Obj:=kN "_law_is_choose" "_law_is_choose" (top 82)
def ob731:Obj:=frC "_law_is_choose" "_law_is_choose" 1183 492 2 3 726 true 181 1188
def ob732:Obj:=kM "_law_is_choose" "_law_is_choose" (top 82) "law_sumcraft_k58_texts_read_or_refused" 1032 731
def ob735:Obj:=frS 1194 ["_law_line","_law_words","_law_high","_law_low","_law_form","_law_fraction"]
def ob737:Obj:=kN "_law_part_of" "_law_part_of" (top 83)
def ob738:Obj:=frC "_law_part_of" "_law_part_of" 1191 498 1 3 733 true 181 1200
def ob739:Obj:=kM "_law_part_of" "_law_part_of" (top 83) "law_sumcraft_k58_texts_read_or_refused" 1032 738
def ob742:Obj:=kN "_law_judged" "_law_judged" (top 84)
def ob743:Obj:=oK #[.str "_law_judged" 1203,.str "_law_judged" 1204,cp 1205,.int 517 0,.int 1 0,.int 0 0,.int 0 0,.int 3 0,.ref 740,.bool true,.int 181 0,.ref 741,.none,.none,.none,.ref 742,.int 1206 0,.int 517 0,cp 1207]
def ob744:Obj:=kM "_law_judged" "_law_judged" (top 84) "law_sumcraft_k58_texts_read_or_refused" 1032 743
def ob747:Obj:=kN "law" "law" (top 85)
def ob748:Obj:=oK #[.str "law" 1209,.str "law" 1210,cp 1211,.int 529 0,.int 1 0,.int 0 0,.int 0 0,.int 3 0,.ref 745,.bool true,.int 181 0,.ref 746,.none,.none,.none,.ref 747,.int 1212 0,.int 529 0,cp 1213]
def ob749:Obj:=kM "law" "law" (top 85) "law_sumcraft_k58_texts_read_or_refused" 1032 748
def env0:Env:={ scope:=PySem.Challenge.pw_sumcraft_k58_texts_read_or_refused.main.scope,locals:=mainNs,globals:=mainNs,cells:=[],code:=.ref 13,frame:=some 14 }
def cd0:Code:=.body (behindTheImports PySem.Challenge.pw_sumcraft_k58_texts_read_or_refused) env0
def fr0:List Frame:=[topFrame { line:=0,col:=0,endLine:=0,endCol:=0 }]
noncomputable def hp1 (P:Params):Heap:=⟨⟨[boot_o_0 P,boot_o_1 P,boot_o_2 P,boot_o_3 P,boot_o_4 P,boot_o_5 P,boot_o_6 P,boot_o_7 P,boot_o_8 P,boot_o_9 P,boot_o_10 P,ob11,ob12,ob13,ob14]⟩,{}⟩
noncomputable def hp3 (P:Params):Heap:=⟨⟨[boot_o_0 P,boot_o_1 P,boot_o_2 P,ob3 P,boot_o_4 P,boot_o_5 P,boot_o_6 P,boot_o_7 P,boot_o_8 P,boot_o_9 P,boot_o_10 P,ob11,ob12',ob13,ob14,ob15,ob16,ob17 P,ob11,ob12,ob20,ob21,ob11,ob23 P,ob24,ob25,ob26,ob27,ob28,ob16,ob30 P,ob11,ob12,ob33,ob34,ob11,ob36 P,ob37,ob38,ob39,ob28,ob16,ob42 P,ob11,ob12,ob45,ob46,ob11,ob48 P,ob49,ob50,ob51,ob28,ob16,ob54 P,ob11,ob12,ob57,ob58,ob11,ob60 P,ob61,ob62,ob63,ob28,ob16,ob66 P,ob11,ob68,ob69,ob70,ob11,ob12,ob73,ob11,ob75,ob76,ob77,ob78,ob79 P,ob80,ob81,ob82,ob28,ob16,ob85 P,ob11,ob12,ob88,ob89,ob11,ob91 P,ob92,ob93,ob94]⟩,{}⟩
noncomputable def hp4 (P:Params):Heap:=⟨⟨[boot_o_0 P,boot_o_1 P,boot_o_2 P,ob3' P,boot_o_4 P,boot_o_5 P,boot_o_6 P,boot_o_7 P,boot_o_8 P,boot_o_9 P,boot_o_10 P,ob11,ob12'',ob13,ob14,ob15,ob16,ob17 P,ob11,ob12,ob20,ob21,ob11,ob23 P,ob24',ob25,ob26,ob27,ob28,ob16,ob30 P,ob11,ob12,ob33,ob34,ob11,ob36 P,ob37,ob38,ob39,ob28,ob16,ob42 P,ob11,ob12,ob45,ob46,ob11,ob48 P,ob49,ob50,ob51,ob28,ob16,ob54 P,ob11,ob12,ob57,ob58,ob11,ob60 P,ob61,ob62,ob63,ob28,ob16,ob66 P,ob11,ob68,ob69,ob70,ob11,ob12,ob73,ob11,ob75,ob76,ob77,ob78,ob79 P,ob80,ob81,ob82,ob28,ob16,ob85 P,ob11,ob12,ob88,ob89,ob11,ob91 P,ob92,ob93,ob94,ob28,ob16,ob97 P,ob11,ob12,ob100,ob101,ob11,ob103 P,ob104,ob105,ob106,ob28,ob16,ob109 P,ob11,ob12,ob112,ob113,ob11,ob115 P,ob116,ob117,ob118,ob28,ob16,ob121 P,ob11,ob12,ob124,ob125,ob11,ob127 P,ob128,ob129,ob130,ob28,ob16,ob133 P,ob11,ob12,ob136,ob137,ob11,ob139 P,ob140,ob141,ob142,ob28,ob16,ob145 P,ob11,ob12,ob148,ob149,ob11,ob151 P,ob152,ob153,ob154,ob11,ob12,ob157,ob11,ob159,ob160,ob161,ob11,ob12,ob164,ob11,ob166,ob167,ob168,ob11,ob12,ob171,ob11,ob173,ob174,ob175]⟩,{}⟩
noncomputable def hp5 (P:Params):Heap:=⟨⟨[boot_o_0 P,boot_o_1 P,boot_o_2 P,ob3'' P,boot_o_4 P,boot_o_5 P,boot_o_6 P,boot_o_7 P,boot_o_8 P,boot_o_9 P,boot_o_10 P,ob11,ob12''',ob13,ob14,ob15,ob16,ob17 P,ob11,ob12,ob20,ob21,ob11,ob23 P,ob24',ob25,ob26,ob27,ob28,ob16,ob30 P,ob11,ob12,ob33,ob34,ob11,ob36 P,ob37,ob38,ob39,ob28,ob16,ob42 P,ob11,ob12,ob45,ob46,ob11,ob48 P,ob49,ob50,ob51,ob28,ob16,ob54 P,ob11,ob12,ob57,ob58,ob11,ob60 P,ob61,ob62,ob63,ob28,ob16,ob66 P,ob11,ob68,ob69,ob70,ob11,ob12,ob73,ob11,ob75,ob76,ob77,ob78,ob79 P,ob80,ob81,ob82,ob28,ob16,ob85 P,ob11,ob12,ob88,ob89,ob11,ob91 P,ob92,ob93,ob94,ob28,ob16,ob97 P,ob11,ob12,ob100,ob101,ob11,ob103 P,ob104,ob105,ob106,ob28,ob16,ob109 P,ob11,ob12,ob112,ob113,ob11,ob115 P,ob116,ob117,ob118,ob28,ob16,ob121 P,ob11,ob12,ob124,ob125,ob11,ob127 P,ob128,ob129,ob130,ob28,ob16,ob133 P,ob11,ob12,ob136,ob137,ob11,ob139 P,ob140,ob141,ob142,ob28,ob16,ob145 P,ob11,ob12,ob148,ob149,ob11,ob151 P,ob152,ob153,ob154,ob11,ob12,ob157,ob11,ob159,ob160,ob161,ob11,ob12,ob164,ob11,ob166,ob167,ob168,ob11,ob12,ob171,ob11,ob173,ob174,ob175,ob11,ob12,ob178,ob179,ob180,ob11,ob12,ob183,ob11,ob185,ob186,ob187,ob11,ob12,ob190,ob11,ob192,ob193,ob194,ob11,ob12,ob197,ob11,ob199,ob200,ob201,ob11,ob12,ob204,ob11,ob206,ob207,ob208,ob11,ob12,ob211,ob11,ob213,ob214,ob215,ob11,ob12,ob218,ob219,ob220,ob11,ob12,ob223,ob11,ob225,ob226,ob227,ob11,ob12,ob230,ob11,ob232,ob233,ob234,ob11,ob12,ob237,ob11,ob239,ob240,ob241,ob11,ob12,ob244,ob11,ob246,ob247,ob248,ob11,ob16,ob251 P,ob11,ob253,ob254,ob255,ob11,ob12,ob258,ob11,ob260,ob261,ob262,ob11,ob12,ob265,ob11,ob267,ob268,ob269,ob11,ob12,ob272,ob11,ob274,ob275,ob276,ob11,ob12,ob279,ob11,ob281,ob282,ob283,ob11,ob12,ob286,ob11,ob288,ob289,ob290,ob11,ob292 P,ob293,ob294,ob295,ob296,ob297,ob298,ob16,ob300 P,ob11,ob302,ob303,ob304,ob11,ob12,ob307,ob11,ob309,ob310,ob311,ob11,ob12,ob314,ob315,ob316,ob11,ob12,ob319,ob11,ob321,ob322,ob323,ob11,ob12,ob326,ob11,ob328,ob329,ob330,ob11,ob12,ob333,ob11,ob335,ob336,ob337,ob11,ob12,ob340,ob11,ob342,ob343,ob344,ob11,ob12,ob347,ob348,ob349,ob350,ob351 P,ob352,ob353,ob354,ob298,ob16,ob357 P,ob11,ob359,ob360,ob361,ob11,ob12,ob364,ob11,ob366,ob367,ob368,ob11,ob12,ob371,ob11,ob373,ob374,ob375,ob11,ob12,ob378,ob11,ob380,ob381,ob382,ob383,ob384 P,ob385,ob386,ob387]⟩,{}⟩
noncomputable def hp6 (P:Params):Heap:=⟨⟨[boot_o_0 P,boot_o_1 P,boot_o_2 P,ob3''' P,boot_o_4 P,boot_o_5 P,boot_o_6 P,boot_o_7 P,boot_o_8 P,boot_o_9 P,boot_o_10 P,ob11,ob12'''',ob13,ob14,ob15,ob16,ob17 P,ob11,ob12,ob20,ob21,ob11,ob23 P,ob24',ob25,ob26,ob27,ob28,ob16,ob30 P,ob11,ob12,ob33,ob34,ob11,ob36 P,ob37,ob38,ob39,ob28,ob16,ob42 P,ob11,ob12,ob45,ob46,ob11,ob48 P,ob49,ob50,ob51,ob28,ob16,ob54 P,ob11,ob12,ob57,ob58,ob11,ob60 P,ob61,ob62,ob63,ob28,ob16,ob66 P,ob11,ob68,ob69,ob70,ob11,ob12,ob73,ob11,ob75,ob76,ob77,ob78,ob79 P,ob80,ob81,ob82,ob28,ob16,ob85 P,ob11,ob12,ob88,ob89,ob11,ob91 P,ob92,ob93,ob94,ob28,ob16,ob97 P,ob11,ob12,ob100,ob101,ob11,ob103 P,ob104,ob105,ob106,ob28,ob16,ob109 P,ob11,ob12,ob112,ob113,ob11,ob115 P,ob116,ob117,ob118,ob28,ob16,ob121 P,ob11,ob12,ob124,ob125,ob11,ob127 P,ob128,ob129,ob130,ob28,ob16,ob133 P,ob11,ob12,ob136,ob137,ob11,ob139 P,ob140,ob141,ob142,ob28,ob16,ob145 P,ob11,ob12,ob148,ob149,ob11,ob151 P,ob152,ob153,ob154,ob11,ob12,ob157,ob11,ob159,ob160,ob161,ob11,ob12,ob164,ob11,ob166,ob167,ob168,ob11,ob12,ob171,ob11,ob173,ob174,ob175,ob11,ob12,ob178,ob179,ob180,ob11,ob12,ob183,ob11,ob185,ob186,ob187,ob11,ob12,ob190,ob11,ob192,ob193,ob194,ob11,ob12,ob197,ob11,ob199,ob200,ob201,ob11,ob12,ob204,ob11,ob206,ob207,ob208,ob11,ob12,ob211,ob11,ob213,ob214,ob215,ob11,ob12,ob218,ob219,ob220,ob11,ob12,ob223,ob11,ob225,ob226,ob227,ob11,ob12,ob230,ob11,ob232,ob233,ob234,ob11,ob12,ob237,ob11,ob239,ob240,ob241,ob11,ob12,ob244,ob11,ob246,ob247,ob248,ob11,ob16,ob251 P,ob11,ob253,ob254,ob255,ob11,ob12,ob258,ob11,ob260,ob261,ob262,ob11,ob12,ob265,ob11,ob267,ob268,ob269,ob11,ob12,ob272,ob11,ob274,ob275,ob276,ob11,ob12,ob279,ob11,ob281,ob282,ob283,ob11,ob12,ob286,ob11,ob288,ob289,ob290,ob11,ob292 P,ob293',ob294,ob295,ob296,ob297,ob298,ob16,ob300 P,ob11,ob302,ob303,ob304,ob11,ob12,ob307,ob11,ob309,ob310,ob311,ob11,ob12,ob314,ob315,ob316,ob11,ob12,ob319,ob11,ob321,ob322,ob323,ob11,ob12,ob326,ob11,ob328,ob329,ob330,ob11,ob12,ob333,ob11,ob335,ob336,ob337,ob11,ob12,ob340,ob11,ob342,ob343,ob344,ob11,ob12,ob347,ob348,ob349,ob350,ob351 P,ob352,ob353,ob354,ob298,ob16,ob357 P,ob11,ob359,ob360,ob361,ob11,ob12,ob364,ob11,ob366,ob367,ob368,ob11,ob12,ob371,ob11,ob373,ob374,ob375,ob11,ob12,ob378,ob11,ob380,ob381,ob382,ob383,ob384 P,ob385,ob386,ob387,ob298,ob16,ob390 P,ob11,ob392,ob393,ob394,ob11,ob12,ob397,ob11,ob399,ob400,ob401,ob11,ob12,ob404,ob11,ob406,ob407,ob408,ob11,ob12,ob411,ob11,ob413,ob414,ob415,ob11,ob12,ob418,ob11,ob420,ob421,ob422,ob11,ob12,ob425,ob11,ob427,ob428,ob429,ob430,ob431 P,ob432,ob433,ob434,ob298,ob16,ob437 P,ob11,ob439,ob440,ob441,ob11,ob12,ob444,ob11,ob446,ob447,ob448,ob11,ob12,ob451,ob11,ob453,ob454,ob455,ob11,ob12,ob458,ob11,ob460,ob461,ob462,ob11,ob12,ob465,ob11,ob467,ob468,ob469,ob470,ob471 P,ob472,ob473,ob474,ob475,ob476,ob477,ob11,ob12,ob480,ob481,ob482,ob11,ob12,ob485,ob11,ob487,ob488,ob489,ob11,ob12,ob492,ob11,ob494,ob495,ob496,ob11,ob12,ob499,ob11,ob501,ob502,ob503,ob11,ob12,ob506,ob11,ob508,ob509,ob510,ob11,ob16,ob513 P,ob11,ob515,ob516,ob517,ob11,ob12,ob520,ob521,ob522,ob11,ob12,ob525,ob11,ob527,ob528,ob529,ob11,ob12,ob532,ob533,ob534,ob11,ob12,ob537,ob538,ob539,ob11,ob12,ob542,ob543,ob544,ob545,ob546 P,ob547,ob548,ob549,ob550,ob551]⟩,{}⟩
noncomputable def hp7 (P:Params):Heap:=⟨⟨[boot_o_0 P,boot_o_1 P,boot_o_2 P,ob3'''' P,boot_o_4 P,boot_o_5 P,boot_o_6 P,boot_o_7 P,boot_o_8 P,boot_o_9 P,boot_o_10 P,ob11,ob12''''',ob13,ob14,ob15,ob16,ob17 P,ob11,ob12,ob20,ob21,ob11,ob23 P,ob24',ob25,ob26,ob27,ob28,ob16,ob30 P,ob11,ob12,ob33,ob34,ob11,ob36 P,ob37,ob38,ob39,ob28,ob16,ob42 P,ob11,ob12,ob45,ob46,ob11,ob48 P,ob49,ob50,ob51,ob28,ob16,ob54 P,ob11,ob12,ob57,ob58,ob11,ob60 P,ob61,ob62,ob63,ob28,ob16,ob66 P,ob11,ob68,ob69,ob70,ob11,ob12,ob73,ob11,ob75,ob76,ob77,ob78,ob79 P,ob80,ob81,ob82,ob28,ob16,ob85 P,ob11,ob12,ob88,ob89,ob11,ob91 P,ob92,ob93,ob94,ob28,ob16,ob97 P,ob11,ob12,ob100,ob101,ob11,ob103 P,ob104,ob105,ob106,ob28,ob16,ob109 P,ob11,ob12,ob112,ob113,ob11,ob115 P,ob116,ob117,ob118,ob28,ob16,ob121 P,ob11,ob12,ob124,ob125,ob11,ob127 P,ob128,ob129,ob130,ob28,ob16,ob133 P,ob11,ob12,ob136,ob137,ob11,ob139 P,ob140,ob141,ob142,ob28,ob16,ob145 P,ob11,ob12,ob148,ob149,ob11,ob151 P,ob152,ob153,ob154,ob11,ob12,ob157,ob11,ob159,ob160,ob161,ob11,ob12,ob164,ob11,ob166,ob167,ob168,ob11,ob12,ob171,ob11,ob173,ob174,ob175,ob11,ob12,ob178,ob179,ob180,ob11,ob12,ob183,ob11,ob185,ob186,ob187,ob11,ob12,ob190,ob11,ob192,ob193,ob194,ob11,ob12,ob197,ob11,ob199,ob200,ob201,ob11,ob12,ob204,ob11,ob206,ob207,ob208,ob11,ob12,ob211,ob11,ob213,ob214,ob215,ob11,ob12,ob218,ob219,ob220,ob11,ob12,ob223,ob11,ob225,ob226,ob227,ob11,ob12,ob230,ob11,ob232,ob233,ob234,ob11,ob12,ob237,ob11,ob239,ob240,ob241,ob11,ob12,ob244,ob11,ob246,ob247,ob248,ob11,ob16,ob251 P,ob11,ob253,ob254,ob255,ob11,ob12,ob258,ob11,ob260,ob261,ob262,ob11,ob12,ob265,ob11,ob267,ob268,ob269,ob11,ob12,ob272,ob11,ob274,ob275,ob276,ob11,ob12,ob279,ob11,ob281,ob282,ob283,ob11,ob12,ob286,ob11,ob288,ob289,ob290,ob11,ob292 P,ob293',ob294,ob295,ob296,ob297,ob298,ob16,ob300 P,ob11,ob302,ob303,ob304,ob11,ob12,ob307,ob11,ob309,ob310,ob311,ob11,ob12,ob314,ob315,ob316,ob11,ob12,ob319,ob11,ob321,ob322,ob323,ob11,ob12,ob326,ob11,ob328,ob329,ob330,ob11,ob12,ob333,ob11,ob335,ob336,ob337,ob11,ob12,ob340,ob11,ob342,ob343,ob344,ob11,ob12,ob347,ob348,ob349,ob350,ob351 P,ob352,ob353,ob354,ob298,ob16,ob357 P,ob11,ob359,ob360,ob361,ob11,ob12,ob364,ob11,ob366,ob367,ob368,ob11,ob12,ob371,ob11,ob373,ob374,ob375,ob11,ob12,ob378,ob11,ob380,ob381,ob382,ob383,ob384 P,ob385,ob386,ob387,ob298,ob16,ob390 P,ob11,ob392,ob393,ob394,ob11,ob12,ob397,ob11,ob399,ob400,ob401,ob11,ob12,ob404,ob11,ob406,ob407,ob408,ob11,ob12,ob411,ob11,ob413,ob414,ob415,ob11,ob12,ob418,ob11,ob420,ob421,ob422,ob11,ob12,ob425,ob11,ob427,ob428,ob429,ob430,ob431 P,ob432,ob433,ob434,ob298,ob16,ob437 P,ob11,ob439,ob440,ob441,ob11,ob12,ob444,ob11,ob446,ob447,ob448,ob11,ob12,ob451,ob11,ob453,ob454,ob455,ob11,ob12,ob458,ob11,ob460,ob461,ob462,ob11,ob12,ob465,ob11,ob467,ob468,ob469,ob470,ob471 P,ob472,ob473,ob474,ob475,ob476,ob477,ob11,ob12,ob480,ob481,ob482,ob11,ob12,ob485,ob11,ob487,ob488,ob489,ob11,ob12,ob492,ob11,ob494,ob495,ob496,ob11,ob12,ob499,ob11,ob501,ob502,ob503,ob11,ob12,ob506,ob11,ob508,ob509,ob510,ob11,ob16,ob513 P,ob11,ob515,ob516,ob517,ob11,ob12,ob520,ob521,ob522,ob11,ob12,ob525,ob11,ob527,ob528,ob529,ob11,ob12,ob532,ob533,ob534,ob11,ob12,ob537,ob538,ob539,ob11,ob12,ob542,ob543,ob544,ob545,ob546 P,ob547,ob548,ob549,ob550,ob551,ob552,ob11,ob12,ob555,ob11,ob557,ob558,ob559,ob11,ob12,ob562,ob11,ob564,ob565,ob566,ob11,ob12,ob569,ob11,ob571,ob572,ob573,ob11,ob12,ob576,ob577,ob578,ob11,ob12,ob581,ob11,ob583,ob584,ob585,ob11,ob12,ob588,ob11,ob590,ob591,ob592,ob11,ob12,ob595,ob11,ob597,ob598,ob599,ob11,ob12,ob602,ob603,ob604,ob11,ob12,ob607,ob11,ob609,ob610,ob611,ob11,ob12,ob614,ob615,ob616,ob11,ob12,ob619,ob11,ob621,ob622,ob623,ob11,ob12,ob626,ob11,ob628,ob629,ob630,ob11,ob12,ob633,ob11,ob635,ob636,ob637,ob11,ob12,ob640,ob11,ob642,ob643,ob644,ob11,ob12,ob647,ob11,ob649,ob650,ob651,ob11,ob12,ob654,ob11,ob656,ob657,ob658,ob11,ob12,ob661,ob662,ob663,ob11,ob12,ob666,ob667,ob668,ob11,ob12,ob671,ob11,ob673,ob674,ob675,ob11,ob12,ob678,ob679,ob680,ob11,ob12,ob683,ob11,ob685,ob686,ob687,ob11,ob12,ob690,ob691,ob692,ob11,ob12,ob695,ob11,ob697,ob698,ob699,ob11,ob12,ob702,ob11,ob704,ob705,ob706,ob11,ob12,ob709,ob11,ob711,ob712,ob713,ob11,ob12,ob716,ob11,ob718,ob719,ob720,ob11,ob12,ob723,ob724,ob725,ob11,ob12,ob728,ob11,ob730,ob731,ob732,ob11,ob12,ob735,ob11,ob737,ob738,ob739,ob11,ob12,ob742,ob743,ob744,ob11,ob12,ob747,ob748,ob749]⟩,{}⟩
set_option maxHeartbeats 0 in
theorem pc_pre (w:World) (os:OsState):topGo treeTable PySem.Challenge.pw_sumcraft_k58_texts_read_or_refused w 11 (some (.ref 6)) 12 (⟨boot_heap w.params,Array.mk [],boot_drawn,boot_toks,os⟩:Shared) (topStub PySem.Challenge.pw_sumcraft_k58_texts_read_or_refused)=some ((⟨hp1 w.params,#[],{},187,os⟩:Shared),⟨denote treeTable cd0,cd0,{ line:=0,col:=0,endLine:=0,endCol:=0 },fr0⟩):=by kernel_rfl
set_option maxHeartbeats 0 in
theorem pc_blk (w:World) (os:OsState):segRun treeTable PySem.Challenge.pw_sumcraft_k58_texts_read_or_refused w 11 (some (.ref 6)) 1 1 (⟨hp1 w.params,#[],{},187,os⟩:Shared) (blockOf (behindTheImports PySem.Challenge.pw_sumcraft_k58_texts_read_or_refused) env0 cd0 { line:=0,col:=0,endLine:=0,endCol:=0 } fr0)=some (.next,(⟨hp1 w.params,#[],{},187,os⟩:Shared),cd0,{ line:=0,col:=0,endLine:=0,endCol:=0 }):=by kernel_rfl
noncomputable def gl3:List Stmt:=[top 0,top 1,top 2,top 3,top 4,top 5,top 6]
set_option maxHeartbeats 0 in
theorem pc3 (w:World) (os:OsState):segRun treeTable PySem.Challenge.pw_sumcraft_k58_texts_read_or_refused w 11 (some (.ref 6)) 1 1293 (⟨hp1 w.params,#[],{},187,os⟩:Shared) (piecesOf gl3 env0 cd0 { line:=0,col:=0,endLine:=0,endCol:=0 } fr0)=some (.next,(⟨hp3 w.params,#[],{},296,os⟩:Shared),cd0,{ line:=15,col:=0,endLine:=16,endCol:=8 }):=by kernel_rfl
noncomputable def gl4:List Stmt:=[top 7,top 8,top 9,top 10,top 11,top 12,top 13,top 14,top 15,top 16,top 17,top 18]
set_option maxHeartbeats 0 in
theorem pc4 (w:World) (os:OsState):segRun treeTable PySem.Challenge.pw_sumcraft_k58_texts_read_or_refused w 11 (some (.ref 6)) 1 1206 (⟨hp3 w.params,#[],{},296,os⟩:Shared) (piecesOf gl4 env0 cd0 { line:=15,col:=0,endLine:=16,endCol:=8 } fr0)=some (.next,(⟨hp4 w.params,#[],{},422,os⟩:Shared),cd0,{ line:=65,col:=0,endLine:=65,endCol:=8 }):=by kernel_rfl
noncomputable def gl5:List Stmt:=[top 19,top 20,top 21,top 22,top 23,top 24,top 25,top 26,top 27,top 28,top 29,top 30,top 31,top 32,top 33,top 34]
set_option maxHeartbeats 0 in
theorem pc5 (w:World) (os:OsState):segRun treeTable PySem.Challenge.pw_sumcraft_k58_texts_read_or_refused w 11 (some (.ref 6)) 1 1457 (⟨hp4 w.params,#[],{},422,os⟩:Shared) (piecesOf gl5 env0 cd0 { line:=65,col:=0,endLine:=65,endCol:=8 } fr0)=some (.next,(⟨hp5 w.params,#[],{},709,os⟩:Shared),cd0,{ line:=160,col:=0,endLine:=169,endCol:=64 }):=by kernel_rfl
noncomputable def gl6:List Stmt:=[top 35,top 36,top 37,top 38,top 39,top 40,top 41,top 42,top 43,top 44,top 45,top 46,top 47]
set_option maxHeartbeats 0 in
theorem pc6 (w:World) (os:OsState):segRun treeTable PySem.Challenge.pw_sumcraft_k58_texts_read_or_refused w 11 (some (.ref 6)) 1 1277 (⟨hp5 w.params,#[],{},709,os⟩:Shared) (piecesOf gl6 env0 cd0 { line:=160,col:=0,endLine:=169,endCol:=64 } fr0)=some (.next,(⟨hp6 w.params,#[],{},935,os⟩:Shared),cd0,{ line:=237,col:=0,endLine:=258,endCol:=32 }):=by kernel_rfl
noncomputable def gl7:List Stmt:=[top 48,top 49,top 50,top 51,top 52,top 53,top 54,top 55,top 56,top 57,top 58,top 59,top 60,top 61,top 62,top 63,top 64,top 65,top 66,top 67,top 68,top 69,top 70,top 71,top 72,top 73,top 74,top 75,top 76,top 77,top 78,top 79,top 80,top 81,top 82,top 83,top 84,top 85]
set_option maxHeartbeats 0 in
theorem pc7 (w:World) (os:OsState):segRun treeTable PySem.Challenge.pw_sumcraft_k58_texts_read_or_refused w 11 (some (.ref 6)) 1 994 (⟨hp6 w.params,#[],{},935,os⟩:Shared) (piecesOf gl7 env0 cd0 { line:=237,col:=0,endLine:=258,endCol:=32 } fr0)=some (.next,(⟨hp7 w.params,#[],{},1215,os⟩:Shared),cd0,{ line:=529,col:=0,endLine:=536,endCol:=15 }):=by kernel_rfl
set_option maxHeartbeats 0 in
theorem pc_fin (w:World) (os:OsState):topRun treeTable PySem.Challenge.pw_sumcraft_k58_texts_read_or_refused w 11 (some (.ref 6)) 2 (⟨hp7 w.params,#[],{},1215,os⟩:Shared) ⟨doneF .next,cd0,{ line:=529,col:=0,endLine:=536,endCol:=15 },fr0⟩=some (⟨hp7 w.params,#[],{},1215,os⟩:Shared):=by kernel_rfl
theorem body_is:behindTheImports PySem.Challenge.pw_sumcraft_k58_texts_read_or_refused=gl3++(gl4++(gl5++(gl6++(gl7++[])))):=by kernel_rfl
theorem run0 (w:World) (os:OsState):topRun treeTable PySem.Challenge.pw_sumcraft_k58_texts_read_or_refused w 11 (some (.ref 6)) (12+(1+(1293+(1206+(1457+(1277+(994+2))))))) (⟨boot_heap w.params,Array.mk [],boot_drawn,boot_toks,os⟩:Shared) (topStub PySem.Challenge.pw_sumcraft_k58_texts_read_or_refused)=some (⟨hp7 w.params,#[],{},1215,os⟩:Shared):=
 go_top (pc_pre w os) (piece_block (pc_blk w os) (by
  rw [body_is]
  exact piece_app (pc3 w os) (piece_app (pc4 w os) (piece_app (pc5 w os) (piece_app (pc6 w os) (piece_app (pc7 w os) (piece_nil (pc_fin w os))))))))
noncomputable def KK (P:Params):Frag:=[(3,ob3'''' P),(17,ob17 P),(23,ob23 P),(24,ob24'),(30,ob30 P),(36,ob36 P),(37,ob37),(42,ob42 P),(48,ob48 P),(49,ob49),(54,ob54 P),(60,ob60 P),(61,ob61),(66,ob66 P),(79,ob79 P),(80,ob80),(85,ob85 P),(91,ob91 P),(92,ob92),(97,ob97 P),(103,ob103 P),(104,ob104),(109,ob109 P),(115,ob115 P),(116,ob116),(121,ob121 P),(127,ob127 P),(128,ob128),(133,ob133 P),(139,ob139 P),(140,ob140),(145,ob145 P),(151,ob151 P),(152,ob152),(167,ob167),(168,ob168),(174,ob174),(175,ob175),(226,ob226),(227,ob227),(251,ob251 P),(292,ob292 P),(293,ob293'),(300,ob300 P),(310,ob310),(311,ob311),(351,ob351 P),(352,ob352),(357,ob357 P),(367,ob367),(368,ob368),(384,ob384 P),(385,ob385),(390,ob390 P),(400,ob400),(401,ob401),(431,ob431 P),(432,ob432),(437,ob437 P),(447,ob447),(448,ob448),(471,ob471 P),(472,ob472),(475,ob475),(476,ob476),(477,ob477),(481,ob481),(482,ob482),(488,ob488),(489,ob489),(495,ob495),(496,ob496),(502,ob502),(503,ob503),(513,ob513 P),(521,ob521),(522,ob522),(528,ob528),(529,ob529),(546,ob546 P),(547,ob547),(552,ob552),(558,ob558),(559,ob559),(565,ob565),(566,ob566),(572,ob572),(573,ob573),(577,ob577),(578,ob578),(584,ob584),(585,ob585),(591,ob591),(592,ob592),(598,ob598),(599,ob599),(603,ob603),(604,ob604),(610,ob610),(611,ob611),(615,ob615),(616,ob616),(622,ob622),(623,ob623),(629,ob629),(630,ob630),(636,ob636),(637,ob637),(643,ob643),(644,ob644),(650,ob650),(651,ob651),(657,ob657),(658,ob658),(662,ob662),(663,ob663),(667,ob667),(668,ob668),(674,ob674),(675,ob675),(679,ob679),(680,ob680),(686,ob686),(687,ob687),(691,ob691),(692,ob692),(698,ob698),(699,ob699),(705,ob705),(706,ob706),(712,ob712),(713,ob713),(719,ob719),(720,ob720),(724,ob724),(725,ob725),(731,ob731),(732,ob732),(738,ob738),(739,ob739),(743,ob743),(744,ob744),(748,ob748),(749,ob749)]
noncomputable def KA:List Addr:=[3,17,23,24,30,36,37,42,48,49,54,60,61,66,79,80,85,91,92,97,103,104,109,115,116,121,127,128,133,139,140,145,151,152,167,168,174,175,226,227,251,292,293,300,310,311,351,352,357,367,368,384,385,390,400,401,431,432,437,447,448,471,472,475,476,477,481,482,488,489,495,496,502,503,513,521,522,528,529,546,547,552,558,559,565,566,572,573,577,578,584,585,591,592,598,599,603,604,610,611,615,616,622,623,629,630,636,637,643,644,650,651,657,658,662,663,667,668,674,675,679,680,686,687,691,692,698,699,705,706,712,713,719,720,724,725,731,732,738,739,743,744,748,749]
noncomputable def qv:Program:=view PySem.Challenge.pw_sumcraft_k58_texts_read_or_refused [1,2,3,4,5,6,7,8,9,10,11,13,14,15,16,17,19,20,21,22,24,25,26,27,28,29,30,31,32,33,34,35,36,38,39,40,41,42,43,44,45,46,47,49,50,51,52,53,54,55,56,57,58,59,60,61,62,63,65,66,67,68,69,70,71,72,73,74,75,76,77,78,79,80,81,82,83,84,85]
def xt (s:Shared):Bool:=xlAt qv [] s && recOk (PySem.Challenge.rw_sumcraft_k58_texts_read_or_refused.row.toRowW).records s
def hk:Hook:=kHook KK KA fun _=>rfl
set_option maxHeartbeats 0 in
theorem left:LeftO PySem.Challenge.pw_sumcraft_k58_texts_read_or_refused qv [] xt hk.obs hk.val 12570:=
 LeftO.of_pieces (H₀:=boot_heap) (H₁:=hp7) (gs₁:=#[]) (d₁:={}) (k₁:=1215)
  (boot_open (by kernel_rfl) rfl fun s=>by kernel_rfl)
  (fun w=>by kernel_rfl) run0 (by kernel_rfl)
  fun w=>by kernel_rfl
set_option maxHeartbeats 0 in
theorem h_well:PySem.Challenge.rw_sumcraft_k58_texts_read_or_refused.wellSaid=true:=by kernel_rfl
set_option maxHeartbeats 0 in
theorem h_bare:PySem.Challenge.rw_sumcraft_k58_texts_read_or_refused.row.prog.bare:=⟨rfl,rfl,rfl,rfl,rfl,by decide +kernel⟩
end My
namespace L2
open PySem PySem.Spec PyProof.Rows
abbrev Key:=Sum Int Str
def keyIs:Key->Value->Bool
 | .inl k,v=>Value.isInt k v
 | .inr x,v=>Value.isStrOf x v
def keyH (w:World):Key->Int
 | .inl k=>hashInt k
 | .inr x=>hashStr w x
theorem keyIs_shape:∀{k:Key} {v:Value},keyIs k v=true->(∃i t,k=Sum.inl i∧v=Value.int i t)∨(∃x t,k=Sum.inr x∧v=Value.str x t)
 | .inl i,v,h=>by
  obtain⟨t,e⟩:=Value.isInt_shape (k:=i) (v:=v) h
  exact .inl ⟨i,t,rfl,e⟩
 | .inr x,v,h=>by
  obtain⟨t,e⟩:=Value.isStrOf_shape (x:=x) (v:=v) h
  exact .inr ⟨x,t,rfl,e⟩
theorem key_ll (a b:Int):decide ((Sum.inl a:Key)=Sum.inl b)=(a == b):=by
 by_cases e:a=b
 ·subst e;simp
 ·have h:¬(Sum.inl a:Key)=Sum.inl b:=fun q=>e (Sum.inl.inj q)
  rw [decide_eq_false h]
  exact (beq_eq_false_iff_ne.mpr e).symm
theorem key_rr (a b:Str):decide ((Sum.inr a:Key)=Sum.inr b)=decide (a=b):=by
 by_cases e:a=b
 ·subst e;simp
 ·have h:¬(Sum.inr a:Key)=Sum.inr b:=fun q=>e (Sum.inr.inj q)
  rw [decide_eq_false h,decide_eq_false e]
theorem key_lr (a:Int) (b:Str):decide ((Sum.inl a:Key)=Sum.inr b)=false:=decide_eq_false (fun q=>nomatch q)
theorem key_rl (a:Str) (b:Int):decide ((Sum.inr a:Key)=Sum.inl b)=false:=decide_eq_false (fun q=>nomatch q)
def mixKind (prog:Program) (w:World):PySem.KeyKind prog w Key where
 is:=keyIs
 hash:=keyH w
 inj:=fun v a b ha hb=>by
  rcases keyIs_shape ha with ⟨i,t,rfl,rfl⟩ | ⟨x,t,rfl,rfl⟩
  ·rcases keyIs_shape hb with ⟨j,u,rfl,e⟩ | ⟨y,u,rfl,e⟩
   ·injection e with e1 _;rw [e1]
   ·exact nomatch e
  ·rcases keyIs_shape hb with ⟨j,u,rfl,e⟩ | ⟨y,u,rfl,e⟩
   ·exact nomatch e
   ·injection e with e1 _;rw [e1]
 byValue:=fun k v h=>by
  rcases keyIs_shape h with ⟨i,t,rfl,rfl⟩ | ⟨x,t,rfl,rfl⟩ <;> rfl
 pyHash:=fun hv h=>by
  rcases keyIs_shape hv with ⟨i,t,rfl,rfl⟩ | ⟨x,t,rfl,rfl⟩
  ·exact wpAny_pyHash_int h
  ·exact wpAny_pyHash_str h
 eqBool:=fun hu hv h=>by
  rcases keyIs_shape hu with ⟨i,t,rfl,rfl⟩ | ⟨x,t,rfl,rfl⟩
  ·rcases keyIs_shape hv with ⟨j,u,rfl,rfl⟩ | ⟨y,u,rfl,rfl⟩
   ·rw [key_ll] at h;exact wpAny_eqBool_int h
   ·rw [key_lr] at h;exact SeqAt.EqAt.int_str i t y u _ _ _ _ h
  ·rcases keyIs_shape hv with ⟨j,u,rfl,rfl⟩ | ⟨y,u,rfl,rfl⟩
   ·rw [key_rl] at h;exact SeqAt.EqAt.str_int x t j u _ _ _ _ h
   ·rw [key_rr] at h;exact wpAny_eqBool_str h
 «strs»:=fun k x t v h=>by
  rcases keyIs_shape h with ⟨i,u,rfl,e⟩ | ⟨y,u,rfl,e⟩
  ·exact nomatch e
  ·injection e with e1 _
   subst e1
   cases v <;> rfl
inductive V where
 | non | bl (b:Bool) | int (i:Int) | str (x:Str) | byt (b:Array UInt8) | flt (b:UInt64) | ref (a:Addr) | ty (n:String)
 deriving DecidableEq
def RelV:V->Value->Prop
 | .non,u=>u=Value.none
 | .bl b,u=>u=Value.bool b
 | .int i,u=>∃t,u=Value.int i t
 | .str x,u=>∃t,u=Value.str x t
 | .byt b,u=>∃t,u=Value.bytes b t
 | .flt b,u=>∃t,u=Value.float b t
 | .ref a,u=>u=Value.ref a
 | .ty n,u=>u=Value.type n
abbrev Vals:List V->List Value->Prop:=Paired RelV
theorem Vals.length {xs:List V} {us:List Value} (r:Vals xs us):xs.length=us.length:=Paired.length r
theorem Vals.get:∀{xs:List V} {us:List Value} {i:Nat} {x:V},Vals xs us->xs[i]?=some x->∃u,us[i]?=some u∧RelV x u
 | _,_,_,_,.nil,e=>by simp at e
 | _,_,0,_,.cons r _,e=>by simp at e;subst e;exact⟨_,rfl,r⟩
 | _,_,i+1,x,.cons _ t,e=>by
  obtain⟨u,h1,h2⟩:=Vals.get (i:=i) (x:=x) t (by simpa using e)
  exact⟨u,by simpa using h1,h2⟩
theorem Vals.set {x:V} {u:Value} (r:RelV x u):∀{xs:List V} {us:List Value} (i:Nat),Vals xs us->Vals (xs.set i x) (us.set i u)
 | _,_,_,.nil=>.nil
 | _,_,0,.cons _ t=>.cons r t
 | _,_,i+1,.cons q t=>.cons q (Vals.set r i t)
theorem Vals.append:∀{xs ys:List V} {us ws:List Value},Vals xs us->Vals ys ws->Vals (xs++ys) (us++ws)
 | _,_,_,_,.nil,s=>s
 | _,_,_,_,.cons r t,s=>.cons r (Vals.append t s)
theorem Vals.take:∀{xs:List V} {us:List Value} (n:Nat),Vals xs us->Vals (xs.take n) (us.take n)
 | _,_,0,_=>.nil
 | _,_,_+1,.nil=>.nil
 | _,_,n+1,.cons r t=>.cons r (Vals.take n t)
theorem Vals.drop:∀{xs:List V} {us:List Value} (n:Nat),Vals xs us->Vals (xs.drop n) (us.drop n)
 | _,_,0,r=>r
 | _,_,_+1,.nil=>.nil
 | _,_,n+1,.cons _ t=>Vals.drop n t
def RelO:Option V->Option Value->Prop
 | some v,some u=>RelV v u
 | none,none=>True
 | _,_=>False
def KV {κ:Type}:List (κ×V)->List (κ×Value)->Prop:=Paired fun (p:κ×V) (q:κ×Value)=>p.1=q.1∧RelV p.2 q.2
def kV:Key->V
 | .inl i=>.int i
 | .inr x=>.str x
inductive HO where
  | lst (xs:List V)
  | tup (xs:List V)
  | dK (kvs:List (Key×V)) | dT (kvs:List (List Key×V))
  | set (S:Int->Bool) (n:Nat)
  | ins (C dx:Addr) (fs:List (Str×V))
  | own (x:Addr)
  | xd (fs:List (Str×V))
  | met (f x:Addr)
  | rng (lo hi:Int)
  | frz (o:Obj) (u:HO)
  | tbl (ps:Array Value)
  | ext (φ:Heap->Prop)
abbrev Hp:=Addr->Option HO
def upd (H:Hp) (a:Addr) (o:HO):Hp:=fun b=>if b=a then some o else H b
theorem upd_same {H:Hp} {a:Addr} {o:HO}:upd H a o a=some o:=by unfold upd;rw [if_pos rfl]
theorem upd_ne {H:Hp} {a b:Addr} {o:HO} (h:b≠a):upd H a o b=H b:=by unfold upd;rw [if_neg h]
theorem ne_of {H:Hp} {a b:Addr} {o u:HO} (h:H a=some o) (h':H b=some u) (d:o≠u):a≠b:=by
 intro e;subst e;rw [h] at h';exact d (Option.some.inj h')
theorem ne_of_none {H:Hp} {a b:Addr} {o:HO} (h:H a=some o) (h':H b=none):a≠b:=by
 intro e;subst e;rw [h] at h';cases h'
section
variable (P:Program) (w:World)
def ObjOk (H:Hp) (h:Heap) (a:Addr):HO->Prop
 | .lst xs=>xs.length<=sizeLine∧∃(its:List Value) (n:Nat),Vals xs its∧h.get? a=some { cls:=.type "list",data:=.seq its.toArray n }
 | .tup xs=>xs.length<=sizeLine∧∃its:List Value,Vals xs its∧IsTup h a its.toArray
 | .dK kvs=>kvs.length<=sizeLine∧(a == sysModules)=false∧∃vs,KV kvs vs∧h.DictOf (mixKind P w) a vs
 | .dT kvs=>kvs.length<=sizeLine∧(a == sysModules)=false∧∃xs:List (List Key×Addr×Value),
   Paired (fun (p:List Key×V) (q:List Key×Addr×Value)=>p.1=q.1∧H q.2.1=some (.tup (p.1.map kV))∧RelV p.2 q.2.2) kvs xs∧
   ∃o es ep,h.get? a=some o∧o.ExactDict∧o.data=.dict es ep∧es.toList=xs.map (entryOfKey (tupleKind (mixKind P w)))∧(xs.map (·.1)).Nodup
 | .set S n=>h.SetOf (intKind P w) a S n
 | .ins C dx fs=>H dx=some (.own a)∧fs.length<=1000∧dx≠a∧h.get? a=some (PySem.W.instObj C dx)∧
   ∃mA,h.Ns1 dx mA∧(∀f,RelO (fs.lookup f) (mA f))∧PySem.Within mA (fs.map (·.1))
 | .own _=>∃o,h.get? a=some o
 | .xd fs=>∃mA,h.Ns1 a mA∧∀f,RelO (fs.lookup f) (mA f)
 | .rng lo hi=>∃t u v,h.get? a=some { cls:=.type "range",data:=.fields #[.int lo t,.int hi u,.int 1 v] }
 | .frz o u=>h.get? a=some o∧ObjOk H h a u
 | .tbl ps=>h.get? a=some { cls:=.none,data:=.fields ps }
 | .met f x=>h.get? a=some (PySem.W.methodObj (.ref f) (.ref x))
 | .ext φ=>φ h∧(∃o,h.get? a=some o)∧∀h1 h2:Heap,φ h1->(∀o,h1.get? a=some o->h2.get? a=some o)->φ h2
def HOk (H:Hp) (h:Heap):Prop:=∀a o,H a=some o->ObjOk P w H h a o
end
section
variable {P:Program} {w:World} {H H':Hp} {h h':Heap} {a:Addr} {o:HO}
theorem ObjOk.lt (x:ObjOk P w H h a o):a < h.objs.size:=by
 cases o with
 | lst xs=>obtain⟨_,_,_,_,e⟩:=x;exact Heap.lt_size e
 | tup xs=>obtain⟨_,_,_,p⟩:=x;exact p.lt
 | dK kvs=>obtain⟨_,_,_,_,o,_,_,e,_⟩:=x;exact Heap.lt_size e
 | dT kvs=>obtain⟨_,_,_,_,o,_,_,e,_⟩:=x;exact Heap.lt_size e
 | set S n=>obtain⟨o,_,_,_,e,_⟩:=x;exact Heap.lt_size e
 | ins C dx fs=>obtain⟨_,_,_,e,_⟩:=x;exact Heap.lt_size e
 | own y=>obtain⟨_,e⟩:=x;exact Heap.lt_size e
 | xd fs=>obtain⟨_,⟨_,_,_,e,_⟩,_⟩:=x;exact Heap.lt_size e
 | rng lo hi=>obtain⟨_,_,_,e⟩:=x;exact Heap.lt_size e
 | frz ob u=>obtain⟨e,_⟩:=x;exact Heap.lt_size e
 | tbl ps=>exact Heap.lt_size (show h.get? a=some _ from x)
 | met f y=>exact Heap.lt_size (show h.get? a=some _ from x)
 | ext φ=>obtain⟨_,⟨_,e⟩,_⟩:=x;exact Heap.lt_size e
theorem Paired.mapP {α β:Type} {F G:α->β->Prop}:∀{l₁:List α} {l₂:List β},Paired F l₁ l₂->(∀a b,F a b->G a b)->Paired G l₁ l₂
 | _,_,.nil,_=>.nil
 | _,_,.cons r t,f=>.cons (f _ _ r) (Paired.mapP t f)
theorem ObjOk.stay (x:ObjOk P w H h a o) (k:∀b u,(b=a∨H b=some (.own a))->h.get? b=some u->h'.get? b=some u)
  (ho:∀b,H b=some (.own a)->H' b=some (.own a)) (ht:∀b xs,H b=some (.tup xs)->H' b=some (.tup xs)):ObjOk P w H' h' a o:=by
 induction o with
 | lst xs=>obtain⟨z,its,n,r,e⟩:=x;exact⟨z,its,n,r,k _ _ (.inl rfl) e⟩
 | tup xs=>obtain⟨z,its,r,ob,e,c⟩:=x;exact⟨z,its,r,ob,k _ _ (.inl rfl) e,c⟩
 | dK kvs=>obtain⟨z,y,vs,r,ob,es,ep,e,c⟩:=x;exact⟨z,y,vs,r,ob,es,ep,k _ _ (.inl rfl) e,c⟩
 | dT kvs=>
  obtain⟨z,y,xs,r,ob,es,ep,e,c⟩:=x
  exact⟨z,y,xs,Paired.mapP r fun p q z=>⟨z.1,ht _ _ z.2.1,z.2.2⟩,ob,es,ep,k _ _ (.inl rfl) e,c⟩
 | set S n=>obtain⟨ob,es,ep,t,e,c⟩:=x;exact⟨ob,es,ep,t,k _ _ (.inl rfl) e,c⟩
 | ins C dx fs=>
  obtain⟨d,z,ne,e,mA,⟨od,es,ep,e2,c⟩,r⟩:=x
  exact⟨ho _ d,z,ne,k _ _ (.inl rfl) e,mA,⟨od,es,ep,k _ _ (.inr d) e2,c⟩,r⟩
 | own y=>obtain⟨ob,e⟩:=x;exact⟨ob,k _ _ (.inl rfl) e⟩
 | xd fs=>obtain⟨mA,⟨od,es,ep,e,c⟩,r⟩:=x;exact⟨mA,⟨od,es,ep,k _ _ (.inl rfl) e,c⟩,r⟩
 | rng lo hi=>obtain⟨t,u,v,e⟩:=x;exact⟨t,u,v,k _ _ (.inl rfl) e⟩
 | frz ob u ih=>obtain⟨e,q⟩:=x;exact⟨k _ _ (.inl rfl) e,ih q⟩
 | tbl ps=>
  have e:h.get? a=some { cls:=.none,data:=.fields ps }:=x
  show h'.get? a=some { cls:=.none,data:=.fields ps }
  exact k a _ (.inl rfl) e
 | met f y=>
  have e:h.get? a=some (PySem.W.methodObj (.ref f) (.ref y)):=x
  show h'.get? a=some (PySem.W.methodObj (.ref f) (.ref y))
  exact k a _ (.inl rfl) e
 | ext φ=>obtain⟨p,⟨o,e⟩,st⟩:=x;exact⟨st _ _ p fun o q=>k _ _ (.inl rfl) q,⟨o,k _ _ (.inl rfl) e⟩,st⟩
theorem HOk.lt (x:HOk P w H h) (e:H a=some o):a < h.objs.size:=(x a o e).lt
theorem HOk.fresh (x:HOk P w H h) (e:h.objs.size<=a):H a=none:=by
 cases q:H a with
 | none=>rfl
 | some u=>exact absurd (Nat.lt_of_lt_of_le (x.lt q) e) (Nat.lt_irrefl _)
theorem HOk.kept (x:HOk P w H h) (k:∀b u,h.get? b=some u->h'.get? b=some u):HOk P w H h':=fun a o e=>
 (x a o e).stay (fun b u _ q=>k b u q) (fun _ q=>q) fun _ _ q=>q
theorem HOk.laid (x:HOk P w H h) (k:∀b u,h.get? b=some u->h'.get? b=some u) (hp:h.objs.size<=a) (new:ObjOk P w (upd H a o) h' a o):HOk P w (upd H a o) h':=fun b u e=>by
 have hn:=x.fresh hp
 by_cases hb:b=a
 ·subst hb;rw [upd_same] at e;cases e;exact new
 ·rw [upd_ne hb] at e
  exact (x b u e).stay (fun c v _ q=>k c v q) (fun c q=>by rw [upd_ne (ne_of_none q hn)];exact q) fun c xs q=>by rw [upd_ne (ne_of_none q hn)];exact q
end
def Rd (H:Hp) (a:Addr) (u:HO):Prop:=H a=some u∨∃o,H a=some (.frz o u)
theorem Rd.ok {P:Program} {w:World} {H:Hp} {h:Heap} {a:Addr} {u:HO} (r:Rd H a u) (x:HOk P w H h):ObjOk P w H h a u:=by
 rcases r with r | ⟨o,r⟩
 ·exact x a u r
 ·obtain⟨_,q⟩:=x a _ r
  exact q
def Mut:Option HO->Prop
 | some (.lst _)=>True
 | some (.dK _)=>True
 | some (.dT _)=>True
 | some (.set _ _)=>True
 | some (.ins _ _ _)=>True
 | some (.ext _)=>True
 | _=>False
section
variable {P:Program} {w:World} {H:Hp} {h h':Heap} {x e:Addr} {o':HO}
theorem HOk.write (ok:HOk P w H h) (mu:Mut (H x)) (he:e=x∨H e=some (.own x)) (k:∀b u,b≠e->h.get? b=some u->h'.get? b=some u) (heo:∃u,h'.get? e=some u)
  (new:ObjOk P w (upd H x o') h' x o'):HOk P w (upd H x o') h':=fun b u q=>by
 have nown:∀c y,H c=some (.own y)->c≠x:=fun c y r z=>by subst z;rw [r] at mu;exact mu
 have ntup:∀c xs,H c=some (.tup xs)->c≠x:=fun c xs r z=>by subst z;rw [r] at mu;exact mu
 by_cases hb:b=x
 ·subst hb;rw [upd_same] at q;cases q;exact new
 ·rw [upd_ne hb] at q
  by_cases hbe:b=e
  ·have q':H b=some (.own x):=by
    rcases he with z | z
    ·exact absurd (hbe.trans z) hb
    ·rw [hbe];exact z
   rw [q] at q';cases q'
   obtain⟨v,hv⟩:=heo
   exact⟨v,by rw [hbe];exact hv⟩
  ·refine (ok b u q).stay (fun c v hc r=>k c v ?_ r) (fun c r=>by rw [upd_ne (nown c b r)];exact r) fun c xs r=>by rw [upd_ne (ntup c xs r)];exact r
   rcases hc with rfl | hc
   ·exact hbe
   ·rintro rfl
    rcases he with z | z
    ·exact nown c b hc z
    ·rw [hc] at z;cases z;exact hb rfl
end
structure Un (fs ex:List Addr) (H H':Hp) (h h':Heap):Prop where
 keep:∀b o,h.get? b=some o->H b=none->b∉fs->b∉ex->h'.get? b=some o
 slot:∀b o,h.get? b=some o->H b=none->b∈fs->b∉ex->∃sl,h'.get? b=some { o with slots:=sl }
 free:∀b o,h.get? b=some o->H b=none->b∉ex->H' b=none
 there:∀b o,h.get? b=some o->b∉ex->∃o',h'.get? b=some o'
 tups:∀b xs,H b=some (.tup xs)->H' b=some (.tup xs)
 frzs:∀b o u,H b=some (.frz o u)->H' b=some (.frz o u)
 tbls:∀b ps,H b=some (.tbl ps)->∃more,H' b=some (.tbl (ps++more))
section
variable {fs fs' ex ex':List Addr} {H H1 H2:Hp} {h h1 h2 h':Heap} {a x e:Addr} {o:HO}
theorem Un.any (u:Un fs ex H H1 h h1) {b:Addr} {ob:Obj} (q:h.get? b=some ob) (n:H b=none) (hx:b∉ex):∃sl,h1.get? b=some { ob with slots:=sl }:=by
 by_cases hb:b∈fs
 ·exact u.slot b ob q n hb hx
 ·exact⟨ob.slots,u.keep b ob q n hb hx⟩
theorem Un.trans (a:Un fs ex H H1 h h1) (b:Un fs ex H1 H2 h1 h2):Un fs ex H H2 h h2 where
 keep:=fun c ob q n hc hx=>b.keep c ob (a.keep c ob q n hc hx) (a.free c ob q n hx) hc hx
 slot:=fun c ob q n hc hx=>by
  obtain⟨sl,e1⟩:=a.slot c ob q n hc hx
  obtain⟨sl',e2⟩:=b.slot c _ e1 (a.free c ob q n hx) hc hx
  exact⟨sl',e2⟩
 free:=fun c ob q n hx=>by
  obtain⟨o',e1⟩:=a.there c ob q hx
  exact b.free c o' e1 (a.free c ob q n hx) hx
 there:=fun c ob q hx=>by
  obtain⟨o',e1⟩:=a.there c ob q hx
  exact b.there c o' e1 hx
 tups:=fun c xs q=>b.tups c xs (a.tups c xs q)
 frzs:=fun c ob xs q=>b.frzs c ob xs (a.frzs c ob xs q)
 tbls:=fun c ps q=>by
  obtain⟨m1,e1⟩:=a.tbls c ps q
  obtain⟨m2,e2⟩:=b.tbls c _ e1
  exact⟨m1++m2,by rw [e2,Array.append_assoc]⟩
theorem Un.kept (k:∀b u,h.get? b=some u->h'.get? b=some u):Un fs ex H H h h':=
 ⟨fun b ob q _ _ _=>k b ob q,fun b ob q _ _ _=>⟨ob.slots,k b ob q⟩,fun _ _ _ n _=>n,fun b ob q _=>⟨ob,k b ob q⟩,fun _ _ q=>q,fun _ _ _ q=>q,fun _ ps q=>⟨#[],by rw [q];simp⟩⟩
theorem Un.refl:Un fs ex H H h h:=Un.kept fun _ _ q=>q
theorem Un.laid (k:∀b u,h.get? b=some u->h'.get? b=some u) (hp:h.objs.size<=a) (hn:H a=none):Un fs ex H (upd H a o) h h' where
 keep:=fun b u q _ _ _=>k b u q
 slot:=fun b u q _ _ _=>⟨u.slots,k b u q⟩
 free:=fun b u q n _=>by rw [upd_ne (Nat.ne_of_lt (Nat.lt_of_lt_of_le (Heap.lt_size q) hp))];exact n
 there:=fun b u q _=>⟨u,k b u q⟩
 tups:=fun b xs q=>by rw [upd_ne (ne_of_none q hn)];exact q
 frzs:=fun b u xs q=>by rw [upd_ne (ne_of_none q hn)];exact q
 tbls:=fun b ps q=>⟨#[],by rw [upd_ne (ne_of_none q hn),q];simp⟩
theorem Un.write (mu:Mut (H x)) (he:e=x∨H e=some (.own x)) (k:∀b u,b≠e->h.get? b=some u->h'.get? b=some u) (heo:∃u,h'.get? e=some u):Un fs ex H (upd H x o) h h':=by
 have hx:∀b,H b=none->b≠x:=fun b n z=>by subst z;rw [n] at mu;exact mu
 have hb:∀b,H b=none->b≠e:=fun b n z=>by
  subst z
  rcases he with r | r
  ·exact hx b n r
  ·rw [n] at r;cases r
 have hm:∀b u,H b=some u->¬Mut (some u)->b≠x:=fun b u q nm z=>by subst z;rw [q] at mu;exact nm mu
 refine⟨fun b u q n _ _=>k b u (hb b n) q,fun b u q n _ _=>⟨u.slots,k b u (hb b n) q⟩,fun b u q n _=>by rw [upd_ne (hx b n)];exact n,fun b u q _=>?_,
  fun b xs q=>by rw [upd_ne (hm b _ q fun z=>z)];exact q,fun b u xs q=>by rw [upd_ne (hm b _ q fun z=>z)];exact q,fun b ps q=>⟨#[],by rw [upd_ne (hm b _ q fun z=>z),q];simp⟩⟩
 by_cases hbe:b=e
 ·subst hbe;exact heo
 ·exact⟨u,k b u hbe q⟩
end
def trk (h:Heap) (H:Hp):List Addr:=(List.range h.objs.size).filter fun a=>(H a).isSome
def hidT (h:Heap) (H:Hp):Heap:=PySem.W.hideAll h (trk h H)
theorem hidT_size (h:Heap) (H:Hp):(hidT h H).objs.size=h.objs.size:=PySem.W.hideAll_size _ _
theorem hidT_get {h:Heap} {H:Hp} {b:Addr} {o:Obj} (e:h.get? b=some o) (n:H b=none):(hidT h H).get? b=some o:=
 PySem.W.hideAll_get _ e fun hm=>by
  have q:(H b).isSome=true:=(List.mem_filter.mp hm).2
  rw [n] at q;simp at q
theorem of_hidT {h:Heap} {H:Hp} {b:Addr} {o:Obj} (e:(hidT h H).get? b=some o):h.get? b=some o∧H b=none:=by
 have e':h.get? b=some o:=PySem.W.of_hideAll (trk h H) e
 refine⟨e',?_⟩
 cases q:H b with
 | none=>rfl
 | some x=>
  have hm:b∈trk h H:=List.mem_filter.mpr ⟨List.mem_range.mpr (Heap.lt_size e'),by simp [q]⟩
  have z:(hidT h H).get? b=none:=PySem.W.hideAll_none (trk h H) hm
  rw [z] at e;cases e
def allNews (g h:Heap) (L:Addr):List (Addr×Obj):=(List.range h.objs.size).filterMap fun a=>if a=L∨(g.get? a).isSome=true then none else (h.get? a).map fun o=>(a,o)
def rest (g h:Heap) (L d:Addr):List (Addr×Obj):=(allNews g h L).filter fun p=>decide (p.1≠d)
structure Mod (K:W.Frag) (mg:Str->Option Value) (base:Heap):Prop where
 kin:K.In base
 glob:base.Ns mainGlobals mg
 blt:∃mb,base.Ns builtinsNs mb∧∀x:Str,x ≠ "__name__" -> mb x=bootBuiltins x
 nolimit:base.NoLimit
structure Cx where
 prog:Program
 w:World
 K:W.Frag
 mg:Str->Option Value
 base:Heap
 A:Around
 N:List Str
 s₀:Shared
 H₀:Hp
 env:Env
 outer:List Env
 stack:List Env
 ex:List Addr
 fn:Str->Bool
 calm:Bool
 pn:List (Addr×Obj)
 xe:Value->Shared->Prop
def frs (l:List Env):List Addr:=l.filterMap (·.frame)
abbrev Cx.fs (X:Cx):List Addr:=frs X.outer
def Vis (sc:Scope) (x:Str):Prop:=sc.names.lookup x=some .local∨sc.names.lookup x=some .cell∨sc.names.lookup x=some .free
def Loc (sc:Scope) (x:Str):Prop:=sc.names.lookup x=some .local∨sc.names.lookup x=some .cell
def Look (env:Env) (h:Heap) (m:Str->Option Value) (x:Str) (u:Value):Prop:=
 (env.kindOf x=some .local∧m x=some u)∨((env.kindOf x=some .cell∨env.kindOf x=some .free)∧∃c,env.cells.lookup x=some c∧h.IsCell c (some u))
structure Cx.Ok (X:Cx):Prop where
 mod:Mod X.K X.mg X.base
 kind:X.env.scope.kind=.function
 glob:X.env.globals=mainGlobals
 blt:X.env.builtins=builtinsNs
 above:X.s₀.heap.objs.size<=X.env.locals
 inj:∀x y c,X.env.cells.lookup x=some c->X.env.cells.lookup y=some c->x=y
 has:∀x,(X.env.kindOf x=some .cell∨X.env.kindOf x=some .free)->∃c,X.env.cells.lookup x=some c
 cab:∀x c,X.fn x=true->X.env.cells.lookup x=some c->X.s₀.heap.objs.size<=c
 hd:X.calm=true->X.A.handled=none
 frames:X.A.frames=some X.stack
 stk:X.stack=X.outer∨(X.stack=X.env :: X.outer∧X.env.frame=some X.env.locals)
 exf:∀b∈X.ex,b≠X.env.locals∧∀x c,X.env.cells.lookup x=some c->c≠b
 bs:∀b o,X.base.get? b=some o->X.s₀.heap.get? b=some o∧X.H₀ b=none
 bsz:X.base.objs.size<=X.s₀.heap.objs.size
 noex:∀b o,X.base.get? b=some o->b∉X.ex
 exfs:∀b∈X.ex,b∉X.fs
 funs:X.s₀.heap.FunFrames X.base X.outer
 frf:∀b∈X.fs,X.H₀ b=none
structure Inv (X:Cx) (pins:List (Addr×Obj)) (σ:List (Option V)) (H:Hp) (s:Shared):Prop where
 ok:X.Ok
 os:s.os=X.s₀.os
 bare:AllBare s.gens
 base:Un X.fs X.ex X.H₀ H X.s₀.heap s.heap
 loc:∃m,s.heap.Ns X.env.locals m∧∀(i:Nat) (x:Str) (v:V),X.N[i]?=some x->σ[i]?=some (some v)->Vis X.env.scope x->∃u,RelV v u∧Look X.env s.heap m x u
 cell:∀x c,X.env.cells.lookup x=some c->∃v,s.heap.IsCell c v
 free:H X.env.locals=none
 freeC:∀x c,X.env.cells.lookup x=some c->H c=none
 pin:∀p∈X.pn++pins,s.heap.get? p.1=some p.2∧H p.1=none∧p.1≠X.env.locals∧p.1∉X.fs∧∀v,p.2.data≠.cell v
 hok:HOk X.prog X.w H s.heap
 len:σ.length=X.N.length
section
variable {X:Cx} {pins:List (Addr×Obj)} {σ:List (Option V)} {H H':Hp} {s:Shared} {h':Heap}
theorem Cx.Ok.nofr (ok:X.Ok) {b:Addr} {o:Obj} (e:X.base.get? b=some o):b∉X.fs:=fun hb=>by
 have:=(ok.funs.mem hb).1
 rw [e] at this;cases this
theorem Inv.bs (I:Inv X pins σ H s):∀b o,X.base.get? b=some o->s.heap.get? b=some o∧H b=none:=fun b o e=>
 ⟨I.base.keep b o (I.ok.bs b o e).1 (I.ok.bs b o e).2 (I.ok.nofr e) (I.ok.noex b o e),I.base.free b o (I.ok.bs b o e).1 (I.ok.bs b o e).2 (I.ok.noex b o e)⟩
theorem Inv.bk (I:Inv X pins σ H s):∀b o,X.base.get? b=some o->s.heap.get? b=some o:=fun b o e=>(I.bs b o e).1
theorem Inv.mod (I:Inv X pins σ H s):Mod X.K X.mg X.base:=I.ok.mod
theorem Inv.kIn (I:Inv X pins σ H s):X.K.In s.heap:=I.ok.mod.kin.keeps I.bk
theorem Inv.lt (I:Inv X pins σ H s):X.env.locals < s.heap.objs.size:=let ⟨_,hn,_⟩:=I.loc;hn.lt
theorem Inv.sz (I:Inv X pins σ H s):X.s₀.heap.objs.size<=s.heap.objs.size:=Nat.le_trans I.ok.above (Nat.le_of_lt I.lt)
theorem Inv.nofs (I:Inv X pins σ H s) {a:Addr} (h:s.heap.objs.size<=a):a∉X.fs:=fun hb=>by
 obtain⟨_,o,ho,_⟩:=I.ok.funs.mem hb
 exact absurd (Nat.lt_of_lt_of_le (Heap.lt_size ho) (Nat.le_trans I.sz h)) (Nat.lt_irrefl _)
theorem Inv.cne (I:Inv X pins σ H s):∀x c,X.env.cells.lookup x=some c->c≠X.env.locals:=fun x c e z=>by
 obtain⟨v,o,ho,hd⟩:=I.cell x c e
 obtain⟨m,⟨o',es,ep,ho',hd',_⟩,_⟩:=I.loc
 rw [z,ho'] at ho;cases ho;rw [hd'] at hd;cases hd
theorem Inv.funs (I:Inv X pins σ H s):s.heap.FunFrames X.base X.outer:=by
 have all:∀(l:List Env),(∀b∈frs l,b∈X.fs)->X.s₀.heap.FunFrames X.base l->s.heap.FunFrames X.base l:=by
  intro l
  induction l with
  | nil=>intro _ _;trivial
  | cons env r ih=>
   intro hs hl
   obtain⟨hk,⟨L,o,hf,hn,ho,hd⟩,hr⟩:=hl
   have hL:L∈X.fs:=hs L (by unfold frs;rw [List.filterMap_cons,hf];exact List.mem_cons_self)
   obtain⟨sl,e⟩:=I.base.slot L o ho (I.ok.frf L hL) hL fun z=>I.ok.exfs L z hL
   exact⟨hk,⟨L,_,hf,hn,e,hd⟩,ih (fun b hb=>hs b (by unfold frs;rw [List.filterMap_cons,hf];exact List.mem_cons_of_mem _ hb)) hr⟩
 exact all X.outer (fun _ hb=>hb) I.ok.funs
theorem Inv.stack (I:Inv X pins σ H s):s.heap.FunFrames X.base X.stack:=by
 rcases I.ok.stk with e | ⟨e,hf⟩
 ·rw [e];exact I.funs
 ·rw [e]
  obtain⟨m,hn,_⟩:=I.loc
  refine .cons (by rw [I.ok.kind];decide) hf hn ?_ I.funs
  exact Heap.get?_none_of_le (Nat.le_trans I.ok.bsz I.ok.above)
theorem Inv.stkSub (I:Inv X pins σ H s):∀b∈frs X.stack,b∈X.env.locals :: X.fs:=fun b hb=>by
 rcases I.ok.stk with e | ⟨e,hf⟩
 ·rw [e] at hb;exact List.mem_cons_of_mem _ hb
 ·rw [e] at hb
  unfold frs at hb
  rw [List.filterMap_cons,hf] at hb
  exact hb
theorem Inv.stkFree (I:Inv X pins σ H s):∀b∈frs X.stack,H b=none:=fun b hb=>by
 rcases List.mem_cons.mp (I.stkSub b hb) with e | hb
 ·rw [e];exact I.free
 ·obtain⟨_,o,ho,_⟩:=I.ok.funs.mem hb
  exact I.base.free b o ho (I.ok.frf b hb) fun z=>I.ok.exfs b z hb
theorem Inv.step {g':Array GenState} {t':Nat} {d':Drawn} {ch:List Addr} (I:Inv X pins σ H s)
  (hch:∀b∈ch,(b∈X.ex∨X.s₀.heap.objs.size<=b)∧b≠X.env.locals∧(∀x c,X.env.cells.lookup x=some c->c≠b)∧∀p∈X.pn++pins,p.1≠b)
  (keep:∀b o,b≠X.env.locals->b∉X.fs->b∉ch->s.heap.get? b=some o->H b=none->h'.get? b=some o)
  (slot:∀b o,b≠X.env.locals->b∈X.fs->b∉ch->s.heap.get? b=some o->H b=none->∃sl,h'.get? b=some { o with slots:=sl }) (free:∀b o,b∉ch->s.heap.get? b=some o->H b=none->H' b=none)
  (there:∀b o,b∉ch->s.heap.get? b=some o->∃o',h'.get? b=some o')
  (tups:∀b xs,H b=some (.tup xs)->H' b=some (.tup xs)) (frzs:∀b o u,H b=some (.frz o u)->H' b=some (.frz o u)) (tbls:∀b ps,H b=some (.tbl ps)->∃more,H' b=some (.tbl (ps++more)))
  (ns:∀m,s.heap.Ns X.env.locals m->h'.Ns X.env.locals m) (hok:HOk X.prog X.w H' h') (hg:AllBare g'):
  Inv X pins σ H' { s with heap:=h',gens:=g',drawn:=d',toks:=t' }:=by
 have neL:∀b o,X.s₀.heap.get? b=some o->b≠X.env.locals:=fun b o e=>Nat.ne_of_lt (Nat.lt_of_lt_of_le (Heap.lt_size e) I.ok.above)
 have neC:∀b o,X.s₀.heap.get? b=some o->b∉X.ex->b∉ch:=fun b o e hx hb=>by
  rcases (hch b hb).1 with z | z
  ·exact hx z
  ·exact absurd (Nat.lt_of_lt_of_le (Heap.lt_size e) z) (Nat.lt_irrefl _)
 have cellK:∀x c,X.env.cells.lookup x=some c->∀v,s.heap.IsCell c v->h'.IsCell c v:=fun x c e v ⟨o,ho,hd⟩=>by
  have nch:c∉ch:=fun z=>(hch c z).2.2.1 x c e rfl
  by_cases hc:c∈X.fs
  ·obtain⟨sl,q⟩:=slot c o (I.cne x c e) hc nch ho (I.freeC x c e)
   exact⟨_,q,hd⟩
  ·exact⟨o,keep c o (I.cne x c e) hc nch ho (I.freeC x c e),hd⟩
 refine⟨I.ok,I.os,hg,⟨fun b o e n hb hx=>?_,fun b o e n hb hx=>?_,fun b o e n hx=>?_,fun b o e hx=>?_,fun b xs e=>tups b xs (I.base.tups b xs e),fun b o xs e=>frzs b o xs (I.base.frzs b o xs e),fun b ps e=>?_⟩,?_,fun x c e=>?_,?_,fun x c e=>?_,fun p hp=>?_,hok,I.len⟩
 ·exact keep b o (neL b o e) hb (neC b o e hx) (I.base.keep b o e n hb hx) (I.base.free b o e n hx)
 ·obtain⟨sl,e1⟩:=I.base.slot b o e n hb hx
  obtain⟨sl',e2⟩:=slot b _ (neL b o e) hb (neC b o e hx) e1 (I.base.free b o e n hx)
  exact⟨sl',e2⟩
 ·obtain⟨o',e1⟩:=I.base.there b o e hx
  exact free b o' (neC b o e hx) e1 (I.base.free b o e n hx)
 ·obtain⟨o',e1⟩:=I.base.there b o e hx
  exact there b o' (neC b o e hx) e1
 ·obtain⟨m1,e1⟩:=I.base.tbls b ps e
  obtain⟨m2,e2⟩:=tbls b _ e1
  exact⟨m1++m2,by rw [e2,Array.append_assoc]⟩
 ·obtain⟨m,hn,hl⟩:=I.loc
  refine⟨m,ns m hn,fun i x v e1 e2 e3=>?_⟩
  obtain⟨u,r,l⟩:=hl i x v e1 e2 e3
  refine⟨u,r,?_⟩
  rcases l with l | ⟨k,c,e,z⟩
  ·exact .inl l
  ·exact .inr ⟨k,c,e,cellK x c e _ z⟩
 ·obtain⟨v,z⟩:=I.cell x c e
  exact⟨v,cellK x c e v z⟩
 ·obtain⟨m,⟨o,_,_,ho,_⟩,_⟩:=I.loc
  exact free _ o (fun z=>(hch _ z).2.1 rfl) ho I.free
 ·obtain⟨v,o,ho,hd⟩:=I.cell x c e
  exact free c o (fun z=>(hch c z).2.2.1 x c e rfl) ho (I.freeC x c e)
 ·obtain⟨e,n,ne,nf,d⟩:=I.pin p hp
  have nch:p.1∉ch:=fun z=>(hch p.1 z).2.2.2 p hp rfl
  exact⟨keep p.1 p.2 ne nf nch e n,free p.1 p.2 nch e n,ne,nf,d⟩
theorem Inv.un {t':Nat} (I:Inv X pins σ H s) (u:Un X.fs [] H H' s.heap h') (hok:HOk X.prog X.w H' h'):Inv X pins σ H' { s with heap:=h',toks:=t' }:=by
 obtain⟨m,⟨o,es,ep,ho,r⟩,_⟩:=id I.loc
 obtain⟨sl,hL⟩:=u.any ho I.free (by simp)
 exact I.step (g':=s.gens) (d':=s.drawn) (ch:=[]) (fun _ z=>nomatch z) (fun b o _ hb _ e n=>u.keep b o e n hb (by simp)) (fun b o _ hb _ e n=>u.slot b o e n hb (by simp)) (fun b o _ e n=>u.free b o e n (by simp)) (fun b o _ e=>u.there b o e (by simp)) u.tups u.frzs u.tbls (fun m' hm=>by
  obtain⟨o',es',ep',ho',r'⟩:=hm
  rw [ho] at ho';cases ho'
  exact⟨_,es',ep',hL,r'⟩) hok I.bare
theorem Inv.call {g':Array GenState} {t':Nat} {d':Drawn} {ch:List Addr} (I:Inv X pins σ H s) (u:Un (frs X.stack) ch H H' s.heap h') (hok:HOk X.prog X.w H' h') (hg:AllBare g')
  (hch:∀b∈ch,(b∈X.ex∨X.s₀.heap.objs.size<=b)∧b≠X.env.locals∧(∀x c,X.env.cells.lookup x=some c->c≠b)∧∀p∈X.pn++pins,p.1≠b):
  Inv X pins σ H' { s with heap:=h',gens:=g',drawn:=d',toks:=t' }:=by
 obtain⟨m,⟨o,es,ep,ho,r⟩,_⟩:=id I.loc
 obtain⟨sl,hL⟩:=u.any ho I.free fun z=>(hch _ z).2.1 rfl
 exact I.step (ch:=ch) hch (fun b o hL hb hc e n=>u.keep b o e n (fun z=>(List.mem_cons.mp (I.stkSub b z)).elim hL hb) hc) (fun b o _ _ hc e n=>u.any e n hc) (fun b o hc e n=>u.free b o e n hc) (fun b o hc e=>u.there b o e hc) u.tups u.frzs u.tbls (fun m' hm=>by
  obtain⟨o',es',ep',ho',r'⟩:=hm
  rw [ho] at ho';cases ho'
  exact⟨_,es',ep',hL,r'⟩) hok hg
theorem Inv.turned {t':Nat} {it:Addr} (I:Inv X pins σ H s) (k:∀b o,b≠it->s.heap.get? b=some o->h'.get? b=some o) (hn:H it=none) (hL:it≠X.env.locals)
  (h1:it∈X.ex∨X.s₀.heap.objs.size<=it) (h2:∀x c,X.env.cells.lookup x=some c->c≠it) (h3:∀p∈X.pn++pins,p.1≠it):Inv X pins σ H { s with heap:=h',toks:=t' }:=by
 have nit:∀b u,H b=some u->b≠it:=fun b u e z=>by rw [z,hn] at e;cases e
 refine I.step (g':=s.gens) (d':=s.drawn) (ch:=[it]) (fun b hb=>?_) (fun b o _ _ hc e _=>k b o (fun z=>hc (by simp [z])) e) (fun b o _ _ hc e _=>⟨o.slots,k b o (fun z=>hc (by simp [z])) e⟩) (fun _ _ _ _ n=>n)
  (fun b o hc e=>⟨o,k b o (fun z=>hc (by simp [z])) e⟩) (fun _ _ e=>e) (fun _ _ _ e=>e) (fun b ps e=>⟨#[],by rw [e];simp⟩) (fun m hm=>?_) (fun b u e=>?_) I.bare
 ·have e:b=it:=by simpa using hb
  subst e
  exact⟨h1,hL,h2,h3⟩
 ·obtain⟨o,es,ep,ho,r⟩:=hm
  exact⟨o,es,ep,k _ o (Ne.symm hL) ho,r⟩
 ·refine (I.hok b u e).stay (fun c v hc q=>k c v ?_ q) (fun _ q=>q) fun _ _ q=>q
  rcases hc with z | z
  ·rw [z];exact nit b u e
  ·exact nit c _ z
theorem Inv.tok (I:Inv X pins σ H s) (t:Nat):Inv X pins σ H { s with toks:=t }:=I.un (h':=s.heap) (t':=t) Un.refl I.hok
theorem Inv.kept {t':Nat} (I:Inv X pins σ H s) (k:∀b u,s.heap.get? b=some u->h'.get? b=some u):Inv X pins σ H { s with heap:=h',toks:=t' }:=I.un (Un.kept k) (I.hok.kept k)
theorem Inv.laid {a:Addr} {o:HO} {t':Nat} (I:Inv X pins σ H s) (k:∀b u,s.heap.get? b=some u->h'.get? b=some u) (hp:s.heap.objs.size<=a) (new:ObjOk X.prog X.w (upd H a o) h' a o):
  Inv X pins σ (upd H a o) { s with heap:=h',toks:=t' }:=I.un (Un.laid k hp (I.hok.fresh hp)) (I.hok.laid k hp new)
theorem Inv.write {x e:Addr} {o:HO} {t':Nat} (I:Inv X pins σ H s) (mu:Mut (H x)) (he:e=x∨H e=some (.own x)) (k:∀b u,b≠e->s.heap.get? b=some u->h'.get? b=some u) (heo:∃u,h'.get? e=some u)
  (new:ObjOk X.prog X.w (upd H x o) h' x o):Inv X pins σ (upd H x o) { s with heap:=h',toks:=t' }:=I.un (Un.write mu he k heo) (I.hok.write mu he k heo new)
theorem Inv.pins_of {pins':List (Addr×Obj)} (I:Inv X pins σ H s) (h:∀p∈pins',s.heap.get? p.1=some p.2∧H p.1=none∧p.1≠X.env.locals∧p.1∉X.fs∧∀v,p.2.data≠.cell v):Inv X pins' σ H s:=
 ⟨I.ok,I.os,I.bare,I.base,I.loc,I.cell,I.free,I.freeC,fun p hp=>(List.mem_append.mp hp).elim (fun z=>I.pin p (List.mem_append_left _ z)) (h p),I.hok,I.len⟩
theorem nodup_ix {N:List Str} (hN:N.Nodup) {i j:Nat} {x:Str} (a:N[i]?=some x) (b:N[j]?=some x):i=j:=by
 obtain⟨h1,e1⟩:=List.getElem?_eq_some_iff.mp a
 obtain⟨h2,e2⟩:=List.getElem?_eq_some_iff.mp b
 exact (List.getElem_inj hN).mp (e1.trans e2.symm)
theorem store_ok2 {M:Model} {A:Around} {E:Value->Shared->Prop} {i:Nat} {x:Str} {v:V} {u:Value} {Q:Unit->Shared->Prop} (I:Inv X pins σ H s) (hN:X.N.Nodup) (hi:X.N[i]?=some x) (hx:Loc X.env.scope x) (r:RelV v u)
  (h:∀s',Inv X pins (σ.set i (some v)) H s'->(∃a,Heap.SameBut a s.heap s'.heap∧(a=X.env.locals∨X.env.cells.lookup x=some a))->Q () s') (hf:X.fn x=true∨X.env.scope.names.lookup x=some .local:=by first | exact .inl rfl | exact .inr rfl | assumption):wpAny M A (storeName X.env x u) Q E s:=by
 obtain⟨m,hn,hl⟩:=id I.loc
 have hcls:(X.env.scope.kind == .class || (X.env.scope.kind == .module && X.env.locals != X.env.globals))=false:=by rw [I.ok.kind];rfl
 have hiσ:i < σ.length:=by rw [I.len];exact (List.getElem?_eq_some_iff.mp hi).1
 have cne:=I.cne
 have tracked:∀{a:Addr} {h':Heap},(∃o,s.heap.get? a=some o∧H a=none)->Heap.SameBut a s.heap h'->HOk X.prog X.w H h':=fun {a h'} ha hs b ob e=>by
  obtain⟨_,_,hfree⟩:=ha
  refine (I.hok b ob e).stay (fun c w' hc q=>(hs.2 c ?_).trans q) (fun _ q=>q) fun _ _ q=>q
  rintro rfl
  rcases hc with rfl | hc
  ·rw [hfree] at e;cases e
  ·rw [hfree] at hc;cases hc
 rcases hx with hk | hk
 ·refine wpAny_storeName_local hk hn (fun h' hn' hs=>?_) hcls
  obtain⟨oL,_,_,hoL,_⟩:=id hn
  refine h _ ⟨I.ok,I.os,I.bare,⟨fun b o e n hb hx=>?_,fun b o e n hb hx=>?_,I.base.free,fun b o e hx=>?_,I.base.tups,I.base.frzs,I.base.tbls⟩,⟨_,hn',fun j y v' e1 e2 e3=>?_⟩,fun y c e=>?_,I.free,I.freeC,fun p hp=>?_,tracked ⟨oL,hoL,I.free⟩ hs,by simpa using I.len⟩ ⟨_,hs,.inl rfl⟩
  ·exact (hs.2 b (Nat.ne_of_lt (Nat.lt_of_lt_of_le (Heap.lt_size e) I.ok.above))).trans (I.base.keep b o e n hb hx)
  ·obtain⟨sl,e1⟩:=I.base.slot b o e n hb hx
   exact⟨sl,(hs.2 b (Nat.ne_of_lt (Nat.lt_of_lt_of_le (Heap.lt_size e) I.ok.above))).trans e1⟩
  ·obtain⟨o',e1⟩:=I.base.there b o e hx
   exact⟨o',(hs.2 b (Nat.ne_of_lt (Nat.lt_of_lt_of_le (Heap.lt_size e) I.ok.above))).trans e1⟩
  ·by_cases hj:j=i
   ·subst hj
    rw [hi] at e1;cases e1
    rw [List.getElem?_set_self hiσ] at e2
    cases e2
    exact⟨u,r,.inl ⟨hk,by simp⟩⟩
   ·rw [List.getElem?_set_ne (Ne.symm hj)] at e2
    obtain⟨u',r',q⟩:=hl j y v' e1 e2 e3
    refine⟨u',r',?_⟩
    rcases q with ⟨k,e⟩ | ⟨k,c,e,z⟩
    ·refine .inl ⟨k,?_⟩
     have:y≠x:=fun e=>hj (nodup_ix hN e1 (e ▸ hi))
     simp [this,e]
    ·exact .inr ⟨k,c,e,z.sameBut hs (cne y c e)⟩
  ·obtain⟨w',z⟩:=I.cell y c e
   exact⟨w',z.sameBut hs (cne y c e)⟩
  ·obtain⟨e,n,ne,nf,d⟩:=I.pin p hp
   exact⟨(hs.2 p.1 ne).trans e,n,ne,nf,d⟩
 ·have hfn:X.fn x=true:=by
   rcases hf with z | z
   ·exact z
   ·rw [z] at hk;cases hk
  obtain⟨c,hc⟩:=I.ok.has x (.inl hk)
  obtain⟨w',z⟩:=I.cell x c hc
  refine wpAny_storeName_cell I.ok.kind hk hc z (fun h' hc' hs=>?_)
  obtain⟨oc,hoc,hocd⟩:=id z
  refine h { s with heap:=h' } ⟨I.ok,I.os,I.bare,⟨fun b o e n hb hx=>?_,fun b o e n hb hx=>?_,I.base.free,fun b o e hx=>?_,I.base.tups,I.base.frzs,I.base.tbls⟩,⟨m,hn.sameBut hs (Ne.symm (cne x c hc)),fun j y v' e1 e2 e3=>?_⟩,fun y c' e=>?_,I.free,I.freeC,fun p hp=>?_,tracked ⟨oc,hoc,I.freeC x c hc⟩ hs,by simpa using I.len⟩ ⟨c,hs,.inr hc⟩
  ·exact (hs.2 b (Nat.ne_of_lt (Nat.lt_of_lt_of_le (Heap.lt_size e) (I.ok.cab x c hfn hc)))).trans (I.base.keep b o e n hb hx)
  ·obtain⟨sl,e1⟩:=I.base.slot b o e n hb hx
   exact⟨sl,(hs.2 b (Nat.ne_of_lt (Nat.lt_of_lt_of_le (Heap.lt_size e) (I.ok.cab x c hfn hc)))).trans e1⟩
  ·obtain⟨o',e1⟩:=I.base.there b o e hx
   exact⟨o',(hs.2 b (Nat.ne_of_lt (Nat.lt_of_lt_of_le (Heap.lt_size e) (I.ok.cab x c hfn hc)))).trans e1⟩
  ·by_cases hj:j=i
   ·subst hj
    rw [hi] at e1;cases e1
    rw [List.getElem?_set_self hiσ] at e2
    cases e2
    exact⟨u,r,.inr ⟨.inl hk,c,hc,hc'⟩⟩
   ·rw [List.getElem?_set_ne (Ne.symm hj)] at e2
    obtain⟨u',r',q⟩:=hl j y v' e1 e2 e3
    refine⟨u',r',?_⟩
    rcases q with q | ⟨k,c',e,z'⟩
    ·exact .inl q
    ·refine .inr ⟨k,c',e,z'.sameBut hs ?_⟩
     rintro rfl
     exact hj (nodup_ix hN e1 (I.ok.inj _ _ _ e hc ▸ hi))
  ·by_cases hcc:c'=c
   ·subst hcc;exact⟨_,hc'⟩
   ·obtain⟨w2,z2⟩:=I.cell y c' e
    exact⟨w2,z2.sameBut hs hcc⟩
  ·obtain⟨e,n,ne,nf,d⟩:=I.pin p hp
   refine⟨(hs.2 p.1 ?_).trans e,n,ne,nf,d⟩
   intro q
   rw [q,hoc] at e
   have q':oc=p.2:=Option.some.inj e
   exact d w' (by rw [← q'];exact hocd)
theorem store_ok {M:Model} {A:Around} {E:Value->Shared->Prop} {i:Nat} {x:Str} {v:V} {u:Value} {Q:Unit->Shared->Prop} (I:Inv X pins σ H s) (hN:X.N.Nodup) (hi:X.N[i]?=some x) (hx:Loc X.env.scope x) (r:RelV v u)
  (h:∀s',Inv X pins (σ.set i (some v)) H s'->Q () s') (hf:X.fn x=true∨X.env.scope.names.lookup x=some .local:=by first | exact .inl rfl | exact .inr rfl | assumption):wpAny M A (storeName X.env x u) Q E s:=
 store_ok2 I hN hi hx r (fun s' I' _=>h s' I') hf
theorem Inv.call' {s':Shared} {ch:List Addr} (I:Inv X pins σ H s) (ho:s'.os=s.os) (u:Un (frs X.stack) ch H H' s.heap s'.heap) (hok:HOk X.prog X.w H' s'.heap) (hg:AllBare s'.gens)
  (hch:∀b∈ch,(b∈X.ex∨X.s₀.heap.objs.size<=b)∧b≠X.env.locals∧(∀x c,X.env.cells.lookup x=some c->c≠b)∧∀p∈X.pn++pins,p.1≠b):Inv X pins σ H' s':=by
 obtain⟨h',g',d',t',o'⟩:=s'
 have e:o'=s.os:=ho
 subst e
 exact I.call (g':=g') (t':=t') (d':=d') u hok hg hch
end
abbrev XK:=Value->Option Addr->Hp->Prop
abbrev St:=List (Option V)
abbrev VK:=V->Hp->Prop
abbrev TE:=St->Hp->VK->Prop
abbrev TT:=St->Hp->(Bool->Hp->Prop)->Prop
abbrev TA:=St->Hp->(List V->Hp->Prop)->Prop
structure Ends where
 nx:St->Hp->Prop
 rt:VK
 bk:St->Hp->Prop:=fun _ _=>False
 ct:St->Hp->Prop:=fun _ _=>False
abbrev TS:=Ends->St->Hp->Prop
def EP (X:Cx) (pins:List (Addr×Obj)) (σ:St) (Q:VK) (u:Value) (s':Shared):Prop:=∃v H',Inv X pins σ H' s'∧RelV v u∧Q v H'
def TP (X:Cx) (pins:List (Addr×Obj)) (σ:St) (Q:Bool->Hp->Prop) (b:Bool) (s':Shared):Prop:=∃H',Inv X pins σ H' s'∧Q b H'
def AP (X:Cx) (pins:List (Addr×Obj)) (σ:St) (Q:List V->Hp->Prop) (us:List Value) (s':Shared):Prop:=∃vs H',Inv X pins σ H' s'∧Vals vs us∧Q vs H'
def SP (X:Cx) (pins:List (Addr×Obj)) (D:Ends) (f:Flow) (s':Shared):Prop:=
 match f with
 | .next=>∃σ' H',Inv X pins σ' H' s'∧D.nx σ' H'
 | .brk=>∃σ' H',Inv X pins σ' H' s'∧D.bk σ' H'
 | .cont=>∃σ' H',Inv X pins σ' H' s'∧D.ct σ' H'
 | .ret u=>∃v σ' H',Inv X pins σ' H' s'∧RelV v u∧D.rt v H'
def PE (X:Cx) (e:Expr) (t:TE):Prop:=
 ∀(pins:List (Addr×Obj)) (s:Shared) (σ:St) (H:Hp) (Q:VK),Inv X pins σ H s->t σ H Q->wpAny (model X.prog X.w) X.A (eval e X.env) (EP X pins σ Q) X.xe s
def PT (X:Cx) (e:Expr) (t:TT):Prop:=
 ∀(pins:List (Addr×Obj)) (s:Shared) (σ:St) (H:Hp) (Q:Bool->Hp->Prop),Inv X pins σ H s->t σ H Q->wpAny (model X.prog X.w) X.A (isTrue e X.env (eval e X.env)) (TP X pins σ Q) X.xe s
def PW (X:Cx) (e:Expr) (t:TT):Prop:=
 ∀(whole:Sem Value) (pins:List (Addr×Obj)) (s:Shared) (σ:St) (H:Hp) (Q:Bool->Hp->Prop),Inv X pins σ H s->t σ H Q->wpAny (model X.prog X.w) X.A (isTrue e X.env whole) (TP X pins σ Q) X.xe s
theorem PW.pt {X:Cx} {e:Expr} {t:TT} (h:PW X e t):PT X e t:=h _
def PA (X:Cx) (es:List Expr) (t:TA):Prop:=
 ∀(pos:Pos) (pins:List (Addr×Obj)) (s:Shared) (σ:St) (H:Hp) (Q:List V->Hp->Prop),Inv X pins σ H s->t σ H Q->wpAny (model X.prog X.w) X.A (spliced (backTo pos (starEach es X.env))) (AP X pins σ Q) X.xe s
def PS (X:Cx) (st:Stmt) (t:TS):Prop:=
 ∀(pins:List (Addr×Obj)) (s:Shared) (σ:St) (H:Hp) (D:Ends),Inv X pins σ H s->t D σ H->wpAny (model X.prog X.w) X.A (exec st X.env) (SP X pins D) X.xe s
def PSs (X:Cx) (st:List Stmt) (t:TS):Prop:=
 ∀(pins:List (Addr×Obj)) (s:Shared) (σ:St) (H:Hp) (D:Ends),Inv X pins σ H s->t D σ H->wpAny (model X.prog X.w) X.A (execs st X.env) (SP X pins D) X.xe s
theorem thn {α:Type} {t:Sem α} {Q Q':α->Shared->Prop} {M:Model} {A:Around} {E:Value->Shared->Prop} {s:Shared} (h:wpAny M A t Q E s) (hQ:∀a s,Q a s->Q' a s):wpAny M A t Q' E s:=wpAny_mono h hQ fun _ _ x=>x
section
variable {X:Cx}
theorem bin {a b:Expr} {ta tb:TE} (ha:PE X a ta) (hb:PE X b tb) {pins:List (Addr×Obj)} {s:Shared} {σ:St} {H:Hp} {R:V->V->Hp->Prop} (I:Inv X pins σ H s) (h:ta σ H fun x H1=>tb σ H1 fun y H2=>R x y H2)
  {α:Type} {Q:α->Shared->Prop} {f:Value->Value->Sem α}
  (hf:∀v u s2 x y H2,Inv X pins σ H2 s2->RelV x v->RelV y u->R x y H2->wpAny (model X.prog X.w) X.A (f v u) Q X.xe s2):
  wpAny (model X.prog X.w) X.A (eval a X.env) (fun v s₁=>wpAny (model X.prog X.w) X.A (eval b X.env) (fun u s₂=>wpAny (model X.prog X.w) X.A (f v u) Q X.xe s₂) X.xe s₁) X.xe s:=by
 refine thn (ha pins s σ H _ I h) fun v s1 ⟨x,H1,I1,r1,q1⟩=>?_
 refine thn (hb pins s1 σ H1 _ I1 q1) fun u s2 ⟨y,H2,I2,r2,q2⟩=>?_
 exact hf v u s2 x y H2 I2 r1 r2 q2
def tVar (i:Nat):TE:=fun σ H Q=>∃v,σ[i]?=some (some v)∧Q v H
def tC (v:V):TE:=fun _ H Q=>Q v H
theorem pe_var {i:Nat} {x:Str} {pos:Pos} (hN:X.N[i]?=some x) (hv:Vis X.env.scope x) (hd:(x == ("__debug__" : Str))=false:=by decide) (hcd:(x == ("__classdict__" : Str))=false:=by decide):PE X (.Name x pos) (tVar i):=by
 intro pins s σ H Q I h
 obtain⟨v,e,h⟩:=h
 obtain⟨m,hn,hl⟩:=I.loc
 obtain⟨u,r,l⟩:=hl i x v hN e hv
 have fin:EP X pins σ Q u s:=⟨v,H,I,r,h⟩
 rcases l with ⟨hk,hm⟩ | ⟨hk,c,hc,hcell⟩
 ·exact wpAny_Name (wpAny_loadName_local I.ok.kind hk hn hm fin) hd
 ·rcases hk with hk | hk
  ·exact wpAny_Name (wpAny_loadName_cell I.ok.kind hk hc hcell fin) hd
  ·exact wpAny_Name (wpAny_loadName_free I.ok.kind hk hc hcell fin hcd) hd
theorem pe_int {i j pos}:PE X (.Constant (.int i) j pos) (tC (.int i)):=fun _ _ _ H _ I h=>wpAny_Constant_int ⟨.int i,H,I.tok _,⟨_,rfl⟩,h⟩
theorem pe_bl {b j pos}:PE X (.Constant (.bool b) j pos) (tC (.bl b)):=fun _ _ _ H _ I h=>Constant_bool ⟨.bl b,H,I,rfl,h⟩
theorem pe_non {j pos}:PE X (.Constant .none j pos) (tC .non):=fun _ _ _ H _ I h=>Constant_none ⟨.non,H,I,rfl,h⟩
theorem pe_str {x j pos}:PE X (.Constant (.str x) j pos) (tC (.str x)):=fun _ _ _ H _ I h=>Calls.Constant_str ⟨.str x,H,I.tok _,⟨_,rfl⟩,h⟩
def Gl (X:Cx) (x:Str):Prop:=X.env.kindOf x=some .globalImplicit
theorem ld_glob {E:Value->Shared->Prop} {pins:List (Addr×Obj)} {s:Shared} {σ:St} {H:Hp} {x:Str} {u:Value} {pos:Pos} {Q:Value->Shared->Prop} (I:Inv X pins σ H s) (hg:Gl X x) (hm:X.mg x=some u) (h:Q u s)
  (hd:(x == ("__debug__" : Str))=false:=by decide):wpAny (model X.prog X.w) X.A (eval (.Name x pos) X.env) Q E s:=
 Calls.Name_function_global I.ok.kind hg (Calls.loadGlobal_global (by rw [I.ok.glob];exact I.mod.glob.keeps I.bk) hm h) hd
theorem ld_blt {E:Value->Shared->Prop} {pins:List (Addr×Obj)} {s:Shared} {σ:St} {H:Hp} {x:Str} {u:Value} {pos:Pos} {Q:Value->Shared->Prop} (I:Inv X pins σ H s) (hg:Gl X x) (hm:X.mg x=none) (hv:bootBuiltins x=some u) (h:Q u s)
  (hn:x ≠ "__name__" := by decide) (hd:(x == ("__debug__" : Str))=false:=by decide):wpAny (model X.prog X.w) X.A (eval (.Name x pos) X.env) Q E s:=by
 obtain⟨mb,h1,h2⟩:=I.mod.blt
 exact Calls.Name_function_global I.ok.kind hg (Calls.loadGlobal_builtin (by rw [I.ok.glob];exact I.mod.glob.keeps I.bk) hm (by rw [I.ok.blt];exact h1.keeps I.bk) ((h2 x hn).trans hv) h) hd
theorem pe_glob {x:Str} {v:V} {u:Value} {pos:Pos} (hg:Gl X x) (hm:X.mg x=some u) (r:RelV v u) (hd:(x == ("__debug__" : Str))=false:=by decide):PE X (.Name x pos) (tC v):=
 fun _ _ _ H _ I h=>ld_glob I hg hm ⟨v,H,I,r,h⟩ hd
theorem pe_bltn {x:Str} {v:V} {u:Value} {pos:Pos} (hg:Gl X x) (hm:X.mg x=none) (hv:bootBuiltins x=some u) (r:RelV v u) (hn:x ≠ "__name__" := by decide) (hd:(x == ("__debug__" : Str))=false:=by decide):PE X (.Name x pos) (tC v):=
 fun _ _ _ H _ I h=>ld_blt I hg hm hv ⟨v,H,I,r,h⟩ hn hd
variable {a b:Expr} {ta tb:TE} {pos:Pos}
def PC (X:Cx) (op:CmpOp) (a b:Expr) (t:TE):Prop:=
 ∀(pins:List (Addr×Obj)) (s:Shared) (σ:St) (H:Hp) (Q:VK),Inv X pins σ H s->t σ H Q->
  wpAny (model X.prog X.w) X.A (eval a X.env) (fun v s₁=>wpAny (model X.prog X.w) X.A (eval b X.env) (fun u s₂=>wpAny (model X.prog X.w) X.A (compareOp op v u) (EP X pins σ Q) X.xe s₂) X.xe s₁) X.xe s
theorem nobehind (b:Expr) {op:CmpOp} (h:op≠.In) (h2:op≠.NotIn):behindInMarks op b=false:=by
 have e1:(op == CmpOp.In)=false:=by cases op <;> first | rfl | exact absurd rfl h
 have e2:(op == CmpOp.NotIn)=false:=by cases op <;> first | rfl | exact absurd rfl h2
 cases b <;> simp [behindInMarks,e1,e2]
def tB (t:TE):TT:=fun σ H Q=>t σ H fun x H1=>∃c,x=.bl c∧Q c H1
theorem pt_cmp {op:CmpOp} {t:TE} (h:PC X op a b t) (h1:behindInMarks op b=false:=by first | exact nobehind _ (by decide) (by decide) | rfl):PT X (.Compare a [op] [b] pos) (tB t):=by
 intro pins s σ H Q I hw
 refine wpAny_isTrue_Compare1 (thn (h pins s σ H _ I hw) fun v s1 h1=>thn h1 fun u s2 h2=>thn h2 fun c s3 ⟨x,H1,I1,r1,q1⟩=>?_) h1
 obtain⟨d,rfl,q⟩:=q1
 cases r1
 exact wpAny_truthy_bool ⟨H1,I1,q⟩
theorem pt_val {e:Expr} {t:TE} (h:PE X e t) (he:∀whole,isTrue e X.env whole=(do let v ← whole;standAt e.pos;holding [v] (truthy v)):=by intro _;rfl):PT X e (tB t):=by
 intro pins s σ H Q I hw
 refine isTrue_plain (thn (h pins s σ H _ I hw) fun v s1 ⟨x,H1,I1,r1,q1⟩=>?_) (he _)
 obtain⟨d,rfl,q⟩:=q1
 cases r1
 exact wpAny_truthy_bool ⟨H1,I1,q⟩
variable {tA tB':TT} {rest:List Expr}
def tAnd (t u:TT):TT:=fun σ H Q=>t σ H fun c H1=>if c=true then u σ H1 Q else Q false H1
def tOr (t u:TT):TT:=fun σ H Q=>t σ H fun c H1=>if c=true then Q true H1 else u σ H1 Q
def tNot (t:TT):TT:=fun σ H Q=>t σ H fun c H1=>Q (!c) H1
theorem pw_and1 (ha:PT X a tA):PW X (.BoolOp .And [a] pos) tA:=by
 intro wh pins s σ H Q I h
 refine isTrue_and (thn (ha pins s σ H Q I h) fun c s1 e=>?_)
 cases c with
 | true=>exact isTrue_and_nil e
 | false=>exact e
theorem pw_or1 (ha:PT X a tA):PW X (.BoolOp .Or [a] pos) tA:=by
 intro wh pins s σ H Q I h
 refine isTrue_or (thn (ha pins s σ H Q I h) fun c s1 e=>?_)
 cases c with
 | false=>exact isTrue_or_nil e
 | true=>exact e
theorem pw_and (ha:PT X a tA) (hb:PW X (.BoolOp .And (b :: rest) pos) tB'):PW X (.BoolOp .And (a :: b :: rest) pos) (tAnd tA tB'):=by
 intro wh pins s σ H Q I h
 refine isTrue_and (thn (ha pins s σ H _ I h) fun c s1 ⟨H1,I1,q1⟩=>?_)
 cases c with
 | true=>exact hb wh pins s1 σ H1 Q I1 q1
 | false=>exact⟨H1,I1,q1⟩
theorem pw_or (ha:PT X a tA) (hb:PW X (.BoolOp .Or (b :: rest) pos) tB'):PW X (.BoolOp .Or (a :: b :: rest) pos) (tOr tA tB'):=by
 intro wh pins s σ H Q I h
 refine isTrue_or (thn (ha pins s σ H _ I h) fun c s1 ⟨H1,I1,q1⟩=>?_)
 cases c with
 | true=>exact⟨H1,I1,q1⟩
 | false=>exact hb wh pins s1 σ H1 Q I1 q1
theorem pt_not (ha:PT X a tA):PT X (.UnaryOp .Not a pos) (tNot tA):=by
 intro pins s σ H Q I h
 exact isTrue_not (ha pins s σ H (fun c H1=>Q (!c) H1) I h)
def tAndV (ta tb:TE):TE:=fun σ H Q=>ta σ H fun x H1=>∃c,x=.bl c∧if c=true then tb σ H1 Q else Q (.bl false) H1
def tOrV (ta tb:TE):TE:=fun σ H Q=>ta σ H fun x H1=>∃c,x=.bl c∧if c=true then Q (.bl true) H1 else tb σ H1 Q
def tNotV (ta:TE):TE:=fun σ H Q=>ta σ H fun x H1=>∃c,x=.bl c∧Q (.bl (!c)) H1
theorem pe_one {op} {t:TE} (h:PE X a t):PE X (.BoolOp op [a] pos) t:=fun pins s σ H Q I hw=>BoolOp_one (h pins s σ H Q I hw)
theorem pe_and (ha:PE X a ta) (hb:PE X (.BoolOp .And (b :: rest) pos) tb):PE X (.BoolOp .And (a :: b :: rest) pos) (tAndV ta tb):=by
 intro pins s σ H Q I h
 refine BoolOp_and (thn (ha pins s σ H _ I h) fun v s1 ⟨x,H1,I1,r1,q1⟩=>?_)
 obtain⟨c,rfl,q1⟩:=q1
 cases r1
 refine wpAny_truthy_bool ?_
 cases c with
 | true=>exact hb pins s1 σ H1 Q I1 q1
 | false=>exact⟨.bl false,H1,I1,rfl,q1⟩
theorem pe_or (ha:PE X a ta) (hb:PE X (.BoolOp .Or (b :: rest) pos) tb):PE X (.BoolOp .Or (a :: b :: rest) pos) (tOrV ta tb):=by
 intro pins s σ H Q I h
 refine BoolOp_or (thn (ha pins s σ H _ I h) fun v s1 ⟨x,H1,I1,r1,q1⟩=>?_)
 obtain⟨c,rfl,q1⟩:=q1
 cases r1
 refine wpAny_truthy_bool ?_
 cases c with
 | false=>exact hb pins s1 σ H1 Q I1 q1
 | true=>exact⟨.bl true,H1,I1,rfl,q1⟩
def tIf (t:TT) (ta tb:TE):TE:=fun σ H Q=>t σ H fun c H1=>if c=true then ta σ H1 Q else tb σ H1 Q
theorem pe_ifExp {c:Expr} (hc:PT X c tA) (ha:PE X a ta) (hb:PE X b tb):PE X (.IfExp c a b pos) (tIf tA ta tb):=by
 intro pins s σ H Q I h
 refine wpAny_IfExp (thn (hc pins s σ H _ I h) fun d s1 ⟨H1,I1,q1⟩=>?_)
 cases d with
 | true=>exact ha pins s1 σ H1 Q I1 q1
 | false=>exact hb pins s1 σ H1 Q I1 q1
end
def SqL (K:W.Frag) (H:Hp) (a:Addr) (xs:List V):Prop:=
 Rd H a (.lst xs)∨
  ∃(o:Obj) (its:Array Value) (n:Nat),K.lookup a=some o∧o.cls=.type "list" ∧ o.dict=none∧o.data=.seq its n∧its.size<=sizeLine∧Vals xs its.toList
def SqT (K:W.Frag) (H:Hp) (a:Addr) (xs:List V):Prop:=
 Rd H a (.tup xs)∨
  ∃(o:Obj) (its:Array Value) (n:Nat),K.lookup a=some o∧o.cls=.type "tuple" ∧ o.data=.seq its n∧its.size<=sizeLine∧Vals xs its.toList
def absV:Value->Option V
 | .none=>some .non
 | .bool b=>some (.bl b)
 | .int i _=>some (.int i)
 | .str x _=>some (.str x)
 | .bytes b _=>some (.byt b)
 | .float b _=>some (.flt b)
 | .ref a=>some (.ref a)
 | .type n=>some (.ty n)
 | _=>none
theorem RelV.abs {x:V} {u:Value} (r:RelV x u):absV u=some x:=by
 cases x with
 | non=>cases r;rfl
 | bl _=>cases r;rfl
 | int _=>obtain⟨t,rfl⟩:=r;rfl
 | str _=>obtain⟨t,rfl⟩:=r;rfl
 | byt _=>obtain⟨t,rfl⟩:=r;rfl
 | flt _=>obtain⟨t,rfl⟩:=r;rfl
 | ref _=>cases r;rfl
 | ty _=>cases r;rfl
theorem RelV.inj {x y:V} {u:Value} (r:RelV x u) (q:RelV y u):x=y:=Option.some.inj (r.abs.symm.trans q.abs)
theorem Vals.inj:∀{xs ys:List V} {us:List Value},Vals xs us->Vals ys us->xs=ys
 | _,_,_,.nil,.nil=>rfl
 | _,_,_,.cons r t,.cons r' t'=>by rw [r.inj r',Vals.inj t t']
section
variable {X:Cx} {pins:List (Addr×Obj)} {σ:St} {H:Hp} {s:Shared} {a:Addr} {xs ys:List V}
theorem SqL.of {K:W.Frag} (h:H a=some (.lst xs)):SqL K H a xs:=.inl (.inl h)
theorem SqT.of {K:W.Frag} (h:H a=some (.tup xs)):SqT K H a xs:=.inl (.inl h)
theorem Inv.list (I:Inv X pins σ H s) (h:SqL X.K H a xs):∃its:List Value,Vals xs its∧PlainL s.heap a its.toArray∧xs.length<=sizeLine:=by
 rcases h with h | ⟨o,its,n,hk,hc,hd,hs,hz,r⟩
 ·obtain⟨z,its,n,r,e⟩:=h.ok I.hok
  exact⟨its,r,⟨_,n,e,rfl,rfl,rfl⟩,z⟩
 ·refine⟨its.toList,r,⟨o,n,I.kIn a o hk,hc,hd,by simpa using hs⟩,?_⟩
  have e:=r.length
  simp only [Array.length_toList] at e
  omega
theorem Inv.tuple (I:Inv X pins σ H s) (h:SqT X.K H a xs):∃its:List Value,Vals xs its∧IsTup s.heap a its.toArray∧xs.length<=sizeLine:=by
 rcases h with h | ⟨o,its,n,hk,hc,hs,hz,r⟩
 ·obtain⟨z,its,r,p⟩:=h.ok I.hok
  exact⟨its,r,p,z⟩
 ·refine⟨its.toList,r,⟨o,I.kIn a o hk,hc,n,by simpa using hs⟩,?_⟩
  have e:=r.length
  simp only [Array.length_toList] at e
  omega
theorem Inv.list_inj (I:Inv X pins σ H s) (h:SqL X.K H a xs) (h':SqL X.K H a ys):xs=ys:=by
 obtain⟨its,r,⟨o,n,e,_,_,d⟩,_⟩:=I.list h
 obtain⟨its',r',⟨o',n',e',_,_,d'⟩,_⟩:=I.list h'
 rw [e] at e';cases e'
 rw [d] at d'
 injection d' with d1 _
 have:its=its':=by simpa using congrArg Array.toList d1
 subst this
 exact r.inj r'
theorem Inv.tuple_inj (I:Inv X pins σ H s) (h:SqT X.K H a xs) (h':SqT X.K H a ys):xs=ys:=by
 obtain⟨its,r,⟨o,e,_,n,d⟩,_⟩:=I.tuple h
 obtain⟨its',r',⟨o',e',_,n',d'⟩,_⟩:=I.tuple h'
 rw [e] at e';cases e'
 rw [d] at d'
 injection d' with d1 _
 have:its=its':=by simpa using congrArg Array.toList d1
 subst this
 exact r.inj r'
end
abbrev Cx.wish (X:Cx) (E:Value->Shared->Prop):Cx:={ X with xe:=E }
abbrev Cx.nox (X:Cx):Cx:=X.wish fun _ _=>False
theorem Cx.Ok.wish {X:Cx} (ok:X.Ok) (E:Value->Shared->Prop):(X.wish E).Ok:=
 ⟨ok.mod,ok.kind,ok.glob,ok.blt,ok.above,ok.inj,ok.has,ok.cab,ok.hd,ok.frames,ok.stk,ok.exf,ok.bs,ok.bsz,ok.noex,ok.exfs,ok.funs,ok.frf⟩
theorem Cx.Ok.unwish {X:Cx} {E:Value->Shared->Prop} (ok:(X.wish E).Ok):X.Ok:=
 ⟨ok.mod,ok.kind,ok.glob,ok.blt,ok.above,ok.inj,ok.has,ok.cab,ok.hd,ok.frames,ok.stk,ok.exf,ok.bs,ok.bsz,ok.noex,ok.exfs,ok.funs,ok.frf⟩
section
variable {X:Cx} {pins:List (Addr×Obj)} {σ:St} {H:Hp} {s:Shared} {E:Value->Shared->Prop}
theorem Inv.wish (I:Inv X pins σ H s) (E:Value->Shared->Prop):Inv (X.wish E) pins σ H s:=⟨I.ok.wish E,I.os,I.bare,I.base,I.loc,I.cell,I.free,I.freeC,I.pin,I.hok,I.len⟩
theorem Inv.unwish (I:Inv (X.wish E) pins σ H s):Inv X pins σ H s:=⟨I.ok.unwish,I.os,I.bare,I.base,I.loc,I.cell,I.free,I.freeC,I.pin,I.hok,I.len⟩
theorem SP.unwish {D:Ends} {f:Flow} {s':Shared} (h:SP (X.wish E) pins D f s'):SP X pins D f s':=by
 cases f with
 | next=>obtain⟨σ',H',I,q⟩:=h;exact⟨σ',H',I.unwish,q⟩
 | brk=>obtain⟨σ',H',I,q⟩:=h;exact⟨σ',H',I.unwish,q⟩
 | cont=>obtain⟨σ',H',I,q⟩:=h;exact⟨σ',H',I.unwish,q⟩
 | ret u=>obtain⟨v,σ',H',I,r,q⟩:=h;exact⟨v,σ',H',I.unwish,r,q⟩
theorem PT.nox {e:Expr} {t:TT} (h:PT X.nox e t):PT X e t:=fun pins s σ H Q I hw=>
 wpAny_mono (h pins s σ H Q (I.wish _) hw) (fun _ _ ⟨H',I',q⟩=>⟨H',I'.unwish,q⟩) fun _ _ z=>False.elim z
theorem PSs.nox {st:List Stmt} {t:TS} (h:PSs X.nox st t):PSs X st t:=fun pins s σ H D I hw=>
 wpAny_mono (h pins s σ H D (I.wish _) hw) (fun _ _ q=>q.unwish) fun _ _ z=>False.elim z
end
section
variable {X:Cx} {st:Stmt} {rest:List Stmt} {t u:TS} {e:Expr} {te:TE} {pos:Pos}
def tNext:TS:=fun D σ H=>D.nx σ H
def tSeq (t u:TS):TS:=fun D σ H=>t { D with nx:=u D } σ H
theorem pss_nil:PSs X [] tNext:=fun _ _ σ H _ I h=>wpAny_execs_nil ⟨σ,H,I,h⟩
theorem pss_cons (h1:PS X st t) (h2:PSs X rest u):PSs X (st :: rest) (tSeq t u):=by
 intro pins s σ H D I h
 refine wpAny_execs_cons (thn (h1 pins s σ H { D with nx:=u D } I h) fun f s1 q=>?_)
 cases f with
 | next=>
  obtain⟨σ',H',I',q⟩:=q
  exact h2 pins s1 σ' H' D I' q
 | ret v=>exact q
 | brk=>exact q
 | cont=>exact q
theorem pss_one (h1:PS X st t):PSs X [st] t:=by
 intro pins s σ H D I h
 refine wpAny_execs_cons (thn (h1 pins s σ H D I h) fun f s1 q=>?_)
 cases f with
 | next=>exact wpAny_execs_nil q
 | ret v=>exact q
 | brk=>exact q
 | cont=>exact q
def tBreak:TS:=fun D σ H=>D.bk σ H
def tCont:TS:=fun D σ H=>D.ct σ H
theorem ps_continue:PS X (.Continue pos) tCont:=fun _ _ σ H _ I h=>wpAny_Continue ⟨σ,H,I,h⟩
theorem Inv.quiet {pins:List (Addr×Obj)} {σ:St} {H:Hp} {s:Shared} (I:Inv X pins σ H s):interactive X.env=false:=by simp [interactive,I.ok.kind]
def tDrop (te:TE):TS:=fun D σ H=>te σ H fun _ H1=>D.nx σ H1
theorem ps_expr (he:PE X e te) (hs:swapsWith e none pos.line X.env=pure false:=by rfl):PS X (.Expr e pos) (tDrop te):=by
 intro pins s σ H D I h
 exact wpAny_Expr_any (thn (he pins s σ H _ I h) fun v s1 ⟨x,H1,I1,r1,q1⟩=>⟨σ,H1,I1,q1⟩) I.quiet hs
def tRet (te:TE):TS:=fun D σ H=>te σ H D.rt
theorem ps_ret (he:PE X e te):PS X (.Return (some e) pos) (tRet te):=by
 intro pins s σ H D I h
 exact wpAny_Return_some (thn (he pins s σ H _ I h) fun v s1 ⟨x,H1,I1,r1,q1⟩=>⟨x,σ,H1,I1,r1,q1⟩)
def tRetN:TS:=fun D _ H=>D.rt .non H
def tIfS (c:TT) (t u:TS):TS:=fun D σ H=>c σ H fun b H1=>if b=true then t D σ H1 else u D σ H1
theorem ps_if {c:Expr} {a b:List Stmt} {tc:TT} (hc:PT X c tc) (ha:PSs X a t) (hb:PSs X b u):PS X (.If c a b pos) (tIfS tc t u):=by
 intro pins s σ H D I h
 refine wpAny_If (thn (hc pins s σ H _ I h) fun d s1 ⟨H1,I1,q1⟩=>?_)
 cases d with
 | true=>exact ha pins s1 σ H1 D I1 q1
 | false=>exact hb pins s1 σ H1 D I1 q1
def tNever:TS:=fun _ _ _=>False
theorem pss_never {sts:List Stmt}:PSs X sts tNever:=fun _ _ _ _ _ _ h=>h.elim
end
abbrev TG:=V->St->Hp->(St->Hp->Prop)->Prop
abbrev TGs:=List V->St->Hp->(St->Hp->Prop)->Prop
def PG (X:Cx) (target:Expr) (t:TG):Prop:=
 ∀(pins:List (Addr×Obj)) (s:Shared) (σ:St) (H:Hp) (v:V) (u:Value) (Q:St->Hp->Prop),Inv X pins σ H s->RelV v u->t v σ H Q->
  wpAny (model X.prog X.w) X.A (assign target X.env u) (fun _ s'=>∃σ' H',Inv X pins σ' H' s'∧Q σ' H') X.xe s
def PGs (X:Cx) (ts:List Expr) (t:TGs):Prop:=
 ∀(pins:List (Addr×Obj)) (s:Shared) (σ:St) (H:Hp) (vs:List V) (us:List Value) (Q:St->Hp->Prop),Inv X pins σ H s->Vals vs us->t vs σ H Q->
  wpAny (model X.prog X.w) X.A (assignInOrder ((assignEach ts X.env).map (·.2)) us) (fun _ s'=>∃σ' H',Inv X pins σ' H' s'∧Q σ' H') X.xe s
abbrev TSet:=V->V->V->Hp->(Hp->Prop)->Prop
def PSet (X:Cx) (t:TSet):Prop:=
 ∀(pins:List (Addr×Obj)) (s:Shared) (σ:St) (H:Hp) (o i v:V) (ov iv u:Value) (Q:Hp->Prop),Inv X pins σ H s->RelV o ov->RelV i iv->RelV v u->t o i v H Q->
  wpAny (model X.prog X.w) X.A (setItem ov iv u) (fun _ s'=>∃H',Inv X pins σ H' s'∧Q H') X.xe s
abbrev TIp:=V->V->Hp->VK->Prop
def PIp (X:Cx) (op:Operator) (t:TIp):Prop:=
 ∀(pins:List (Addr×Obj)) (s:Shared) (σ:St) (H:Hp) (x y:V) (v u:Value) (Q:VK),Inv X pins σ H s->RelV x v->RelV y u->t x y H Q->
  wpAny (model X.prog X.w) X.A (inplaceOp op v u) (EP X pins σ Q) X.xe s
section
variable {X:Cx} {pos:Pos}
def gName (i:Nat):TG:=fun v σ H Q=>Q (σ.set i (some v)) H
theorem pg_name {i:Nat} {x:Str} (hN:X.N.Nodup) (hi:X.N[i]?=some x) (hx:Loc X.env.scope x) (hf:X.fn x=true∨X.env.scope.names.lookup x=some .local:=by first | exact .inl rfl | exact .inr rfl | assumption):PG X (.Name x pos) (gName i):=by
 intro pins s σ H v u Q I r h
 exact wpAny_assign_Name (store_ok I hN hi hx r (fun s' I'=>⟨_,H,I',h⟩) hf)
def gNil:TGs:=fun vs σ H Q=>vs=[]∧Q σ H
def gCons (t:TG) (u:TGs):TGs:=fun vs σ H Q=>∃v r,vs=v :: r∧t v σ H fun σ' H'=>u r σ' H' Q
theorem pgs_nil:PGs X [] gNil:=by
 intro pins s σ H vs us Q I r h
 obtain⟨e,h⟩:=h
 subst e
 cases r
 exact assignInOrder_nil ⟨σ,H,I,h⟩
theorem pgs_cons {e:Expr} {es:List Expr} {t:TG} {u:TGs} (h1:PG X e t) (h2:PGs X es u)
  (hs:(assignEach (e :: es) X.env).map (·.2)=assign e X.env :: (assignEach es X.env).map (·.2):=by rfl):PGs X (e :: es) (gCons t u):=by
 intro pins s σ H vs us Q I r h
 obtain⟨v,vr,e1,h⟩:=h
 subst e1
 cases r with
 | cons r rr=>
  rw [hs]
  refine assignInOrder_cons (thn (h1 pins s σ H _ _ _ I r h) fun _ s1 ⟨σ1,H1,I1,q1⟩=>?_)
  exact h2 pins s1 σ1 H1 _ _ Q I1 rr q1
def gTup (K:W.Frag) (n:Nat) (t:TGs):TG:=fun v σ H Q=>∃a xs,v=.ref a∧SqT K H a xs∧xs.length=n∧t xs σ H Q
theorem pg_tup {es:List Expr} {k:Nat} {t:TGs} {n:Nat} (hc:X.calm=true) (h:PGs X es t)
  (hn:(assignEach es X.env).length=n:=by rfl) (hst:(assignEach es X.env).findIdx? (·.1)=none:=by rfl):PG X (.Tuple es k pos) (gTup X.K n t):=by
 intro pins s σ H v u Q I r hw
 obtain⟨a,xs,e1,hq,hl,hw⟩:=hw
 subst e1
 cases r
 obtain⟨its,rv,ht,hz⟩:=I.tuple hq
 refine assign_Tuple_tuple (I.ok.hd hc) ht (by simp [hn,← hl,rv.length]) hst fun h' hx=>?_
 have I1:Inv X pins σ H { s with heap:=h' }:=I.kept (t':=s.toks) fun b o e=>hx b o (Nat.ne_of_lt (Heap.lt_size e)) e
 exact h pins _ σ H xs _ Q I1 (by simpa using rv) hw
def gSub (to ti:TE) (t:TSet):TG:=fun v σ H Q=>to σ H fun o H1=>ti σ H1 fun i H2=>t o i v H2 fun H3=>Q σ H3
theorem pg_sub {o i:Expr} {to ti:TE} {t:TSet} (ho:PE X o to) (hi:PE X i ti) (hs:PSet X t)
  (ha:∀v,assign (.Subscript o i pos) X.env v=(do
   let ov ← holding [v] (eval o X.env)
   let iv ← holding [v,ov] (eval i X.env)
   standAt pos
   holding [v,ov,iv] (setItem ov iv v)
   release [v,ov,iv] []):=by intro _;rfl):PG X (.Subscript o i pos) (gSub to ti t):=by
 intro pins s σ H v u Q I r h
 rw [ha]
 refine wpAny_bind (wpAny_holding (thn (ho pins s σ H _ I h) fun ov s1 ⟨x,H1,I1,r1,q1⟩=>?_))
 refine wpAny_bind (wpAny_holding (thn (hi pins s1 σ H1 _ I1 q1) fun iv s2 ⟨y,H2,I2,r2,q2⟩=>?_))
 refine wpAny_bind (wpAny_standAt (wpAny_bind (wpAny_holding (thn (hs pins s2 σ H2 x y v ov iv u _ I2 r1 r2 r q2) fun _ s3 ⟨H3,I3,q3⟩=>?_))))
 exact wpAny_release ⟨σ,H3,I3,q3⟩
def tAsg (te:TE) (g:TG):TS:=fun D σ H=>te σ H fun x H1=>g x σ H1 D.nx
theorem ps_asg {tg e:Expr} {te:TE} {g:TG} (he:PE X e te) (hg:PG X tg g) (hs:swapsWithSole [tg] e pos.line X.env=pure false:=by rfl) (hw:swappedStores [tg] e X.env=pure none:=by rfl)
  (h1:(assignEach [tg] X.env).map (·.2)=[assign tg X.env]:=by rfl):PS X (.Assign [tg] e pos) (tAsg te g):=by
 intro pins s σ H D I h
 refine wpAny_Assign_stores (thn (he pins s σ H _ I h) fun v s1 ⟨x,H1,I1,r1,q1⟩=>?_) hs hw
 rw [h1]
 exact thn (hg pins s1 σ H1 x v _ I1 r1 q1) fun _ s2 q=>q
theorem ps_set {i:Nat} {x:Str} {e:Expr} {te:TE} {pos':Pos} (hN:X.N.Nodup) (hi:X.N[i]?=some x) (hx:Loc X.env.scope x) (he:PE X e te) (hs:swapsWith e (some (.Name x pos')) pos.line X.env=pure false:=by rfl) (hf:X.fn x=true∨X.env.scope.names.lookup x=some .local:=by first | exact .inl rfl | exact .inr rfl | assumption):
  PS X (.Assign [.Name x pos'] e pos) (tAsg te (gName i)):=by
 intro pins s σ H D I h
 refine wpAny_Assign_Name (thn (he pins s σ H _ I h) fun v s1 ⟨y,H1,I1,r1,q1⟩=>?_) hs
 exact store_ok I1 hN hi hx r1 (fun s2 I2=>⟨_,H1,I2,q1⟩) hf
def tAug (i:Nat) (te:TE) (ti:TIp):TS:=fun D σ H=>∃x,σ[i]?=some (some x)∧te σ H fun y H1=>ti x y H1 fun z H2=>D.nx (σ.set i (some z)) H2
theorem ps_aug {i:Nat} {x:Str} {e:Expr} {te:TE} {op:Operator} {ti:TIp} {pos':Pos} (hN:X.N.Nodup) (hi:X.N[i]?=some x) (hx:Loc X.env.scope x) (he:PE X e te) (ho:PIp X op ti) (hf:X.fn x=true∨X.env.scope.names.lookup x=some .local:=by first | exact .inl rfl | exact .inr rfl | assumption):
  PS X (.AugAssign (.Name x pos') op e pos) (tAug i te ti):=by
 intro pins s σ H D I h
 obtain⟨v,e1,h⟩:=h
 obtain⟨m,hn,hl⟩:=I.loc
 have vis:Vis X.env.scope x:=by rcases hx with k | k;exact .inl k;exact .inr (.inl k)
 obtain⟨u,r,l⟩:=hl i x v hi e1 vis
 refine wpAny_AugAssign_Name ?_
 have go:wpAny (model X.prog X.w) X.A (eval e X.env) (fun w s₂=>wpAny (model X.prog X.w) X.A (inplaceOp op u w) (fun r s₃=>wpAny (model X.prog X.w) X.A (storeName X.env x r) (fun _=>SP X pins D .next) X.xe s₃) X.xe s₂) X.xe s:=by
  refine thn (he pins s σ H _ I h) fun w s1 ⟨y,H1,I1,r1,q1⟩=>?_
  refine thn (ho pins s1 σ H1 v y u w _ I1 r r1 q1) fun z s2 ⟨zv,H2,I2,r2,q2⟩=>?_
  exact store_ok I2 hN hi hx r2 (fun s3 I3=>⟨_,H2,I3,q2⟩) hf
 rcases l with ⟨hk,hm⟩ | ⟨hk,c,hc,hcell⟩
 ·exact wpAny_loadName_local I.ok.kind hk hn hm go
 ·rcases hk with hk | hk
  ·exact wpAny_loadName_cell I.ok.kind hk hc hcell go
  ·rcases hx with k | k
   ·have:X.env.scope.names.lookup x=some .free:=hk
    rw [k] at this;cases this
   ·have:X.env.scope.names.lookup x=some .free:=hk
    rw [k] at this;cases this
def tAugS (to ti te:TE) (tget:V->V->Hp->VK->Prop) (tip:TIp) (tset:TSet):TS:=fun D σ H=>to σ H fun o H1=>ti σ H1 fun i H2=>tget o i H2 fun x H3=>te σ H3 fun y H4=>tip x y H4 fun z H5=>tset o i z H5 fun H6=>D.nx σ H6
def ipI (f:Int->Int->Int):TIp:=fun x y H Q=>∃i j,x=.int i∧y=.int j∧Q (.int (f i j)) H
end
section
variable {X:Cx} {pos:Pos}
def tWhile (c:TT) (tb:TS):TS:=fun D σ H=>∃W:Nat->St->Hp->Prop,(∃m,W m σ H)∧∀m σ H,W m σ H->
 c σ H fun b H1=>if b=true then ∃N:St->Hp->Prop,(∀σ' H',N σ' H'->∃m',m' < m∧W m' σ' H')∧tb { D with nx:=N,ct:=N,bk:=D.nx } σ H1 else D.nx σ H1
theorem ps_while {c:Expr} {body:List Stmt} {tc:TT} {tb:TS} (hp:PassesOwn (model X.prog X.w) X.A X.env X.xe) (hc:PT X c tc) (hb:PSs X body tb):PS X (.While c body [] pos) (tWhile tc tb):=by
 intro pins s σ H D I h
 obtain⟨W,⟨m0,w0⟩,turn⟩:=h
 refine wpAny_While (codeAny_whileLoop (fun n s'=>∃σ' H',Inv X pins σ' H' s'∧W n σ' H') ?_ m0 ⟨σ,H,I,w0⟩)
 rintro n s1 ⟨σ1,H1,I1,w1⟩
 refine wpAny_passesOwn hp (thn (hc pins s1 σ1 H1 _ I1 (turn n σ1 H1 w1)) fun b s2 ⟨H2,I2,q2⟩=>?_)
 cases b with
 | true=>
  obtain⟨N,hN,q2⟩:=q2
  rw [if_pos rfl]
  refine wpAny_passesOwn hp (thn (hb pins s2 σ1 H2 _ I2 q2) fun f s3 q3=>?_)
  cases f with
  | next=>
   obtain⟨σ3,H3,I3,n3⟩:=q3
   obtain⟨m',hm,w3⟩:=hN σ3 H3 n3
   exact⟨m',hm,σ3,H3,I3,w3⟩
  | cont=>
   obtain⟨σ3,H3,I3,n3⟩:=q3
   obtain⟨m',hm,w3⟩:=hN σ3 H3 n3
   exact⟨m',hm,σ3,H3,I3,w3⟩
  | brk=>exact q3
  | ret v=>exact q3
 | false=>
  rw [if_neg Bool.false_ne_true]
  exact wpAny_execs_nil ⟨σ1,H2,I2,q2⟩
end
structure It where
 go:Nat->Hp->Prop
 yld:Nat->Hp->V->Hp->Prop
 stop:Nat->Hp->Prop
def FpOk (X:Cx) (pins:List (Addr×Obj)) (H:Hp) (b:Addr):Prop:=
 H b=none∧b≠X.env.locals∧b∉X.fs∧(b∈X.ex∨X.s₀.heap.objs.size<=b)∧(∀x c,X.env.cells.lookup x=some c->c≠b)∧∀p∈X.pn++pins,p.1≠b
theorem Inv.fpOk {X:Cx} {pins:List (Addr×Obj)} {σ:St} {H H':Hp} {s:Shared} {b:Addr} (I:Inv X pins σ H s) (hb:s.heap.objs.size<=b) (hn:H' b=none):FpOk X pins H' b:=by
 refine⟨hn,Nat.ne_of_gt (Nat.lt_of_lt_of_le I.lt hb),I.nofs hb,.inr (Nat.le_trans I.sz hb),fun x c e z=>?_,fun p hp z=>?_⟩
 ·obtain⟨v,q⟩:=I.cell x c e
  exact absurd (Nat.lt_of_lt_of_le q.lt (by rw [z];exact hb)) (Nat.lt_irrefl _)
 ·exact absurd (Nat.lt_of_lt_of_le (Heap.lt_size (I.pin p hp).1) (by rw [z];exact hb)) (Nat.lt_irrefl _)
structure Turn (P:Program) (w:World) (K:W.Frag) (tg:Expr) (J:It) (fp:List Addr) (it:Addr) (tn:Nat->Heap->Prop):Prop where
 mem:it∈fp
 obj:∀i h,tn i h->∀b∈fp,∃o,h.get? b=some o∧∀v,o.data≠.cell v
 keep:∀i h h',tn i h->(∀b∈fp,∀o,h.get? b=some o->h'.get? b=some o)->tn i h'
 item:∀(X:Cx),X.prog=P->X.w=w->X.K=K->X.calm=true->∀(i:Nat) (pins:List (Addr×Obj)) (s:Shared) (σ:St) (H:Hp) (E:Value->Shared->Prop),Inv X pins σ H s->(∀b∈fp,FpOk X pins H b)->tn i s.heap->J.go i H->
  wpAny (model P w) X.A (pyNext (.ref it)) (fun r s1=>∃u,r=some u∧
   wpAny (model P w) X.A (letOwnedTupleGo tg (.ref it) u) (fun _ s2=>∃x H',Inv X pins σ H' s2∧RelV x u∧J.yld i H x H'∧tn (i+1) s2.heap∧∀b∈fp,H' b=none) E s1) E s
 done:∀(X:Cx),X.prog=P->X.w=w->X.K=K->X.calm=true->∀(i:Nat) (pins:List (Addr×Obj)) (s:Shared) (σ:St) (H:Hp) (E:Value->Shared->Prop),Inv X pins σ H s->(∀b∈fp,FpOk X pins H b)->tn i s.heap->J.stop i H->
  wpAny (model P w) X.A (pyNext (.ref it)) (fun r s1=>r=none∧Inv X pins σ H s1) E s
 self:∀(A:Around) (i:Nat) (s:Shared) (Q:Value->Shared->Prop) (E:Value->Shared->Prop),tn i s.heap->Q (.ref it) s->wpAny (model P w) A (pyIter (.ref it)) Q E s
abbrev TI:=St->Hp->(It->Hp->Prop)->Prop
def PIE (X:Cx) (pins:List (Addr×Obj)) (σ:St) (tg:Expr) (R:It->Hp->Prop) (itv:Value) (s2:Shared):Prop:=
 ∃(it:Addr) (fp:List Addr) (tn:Nat->Heap->Prop) (J:It) (H':Hp),itv=.ref it∧Inv X pins σ H' s2∧Turn X.prog X.w X.K tg J fp it tn∧tn 0 s2.heap∧(∀b∈fp,FpOk X pins H' b)∧R J H'
def PI (X:Cx) (tg iter:Expr) (wi:TI):Prop:=
 ∀(pins:List (Addr×Obj)) (s:Shared) (σ:St) (H:Hp) (R:It->Hp->Prop),Inv X pins σ H s->wi σ H R->
  wpAny (model X.prog X.w) X.A (eval iter X.env) (fun v s1=>wpAny (model X.prog X.w) X.A (pyIter v) (PIE X pins σ tg R) X.xe s1) X.xe s
theorem go_of {M:Model} {A:Around} {E:Value->Shared->Prop} {s:Shared} {tg:Expr} {it:Addr} {u:Value} {o:Obj} {n:String} {vs:Array Value} {Q:Unit->Shared->Prop} (ho:s.heap.get? it=some o) (hc:o.cls=.type n) (hd:o.data=.fields vs)
  (hn:["enumerate","zip","dict_itemiterator","dict_reverseitemiterator","odict_iterator","itertools.zip_longest","itertools.pairwise"].contains n=false) (hQ:Q () s):wpAny M A (letOwnedTupleGo tg (.ref it) u) Q E s:=by
 unfold letOwnedTupleGo
 cases tg <;> first
  | exact wpAny_pure hQ
  |(cases u <;> first
    | exact wpAny_pure hQ
    |(refine wpAny_bind (wpAny_load ho ?_)
      rw [hc,hd]
      show wpAny M A (if (["enumerate","zip","dict_itemiterator","dict_reverseitemiterator","odict_iterator","itertools.zip_longest","itertools.pairwise"].contains n && vs[0]? == some (rawInt _))=true then _ else _) Q E s
      rw [if_neg (by intro h;rw [hn,Bool.false_and] at h;cases h)]
      exact wpAny_pure hQ))
def Itl (K:W.Frag) (a:Addr):It:=
 ⟨fun i H=>∃xs x,SqL K H a xs∧xs[i]?=some x,fun i H x H'=>H'=H∧∀xs,SqL K H a xs->xs[i]?=some x,fun i H=>∃xs,SqL K H a xs∧xs.length<=i⟩
def Itt (K:W.Frag) (a:Addr):It:=
 ⟨fun i H=>∃xs x,SqT K H a xs∧xs[i]?=some x,fun i H x H'=>H'=H∧∀xs,SqT K H a xs->xs[i]?=some x,fun i H=>∃xs,SqT K H a xs∧xs.length<=i⟩
def Itr (lo:Int) (n:Nat):It:=⟨fun i _=>i < n,fun i H x H'=>H'=H∧x=.int (lo+i),fun i _=>n<=i⟩
theorem turn_list {P:Program} {w:World} {K:W.Frag} {tg:Expr} (a it:Addr):Turn P w K tg (Itl K a) [it] it (fun i h=>h.IsListIter it a i) where
 mem:=by simp
 obj:=fun i h st b hb=>by
  have e:b=it:=by simpa using hb
  subst e
  obtain⟨o,e,c,d⟩:=st
  exact⟨o,e,fun v z=>by rw [d] at z;cases z⟩
 keep:=fun i h h' st k=>st.at fun o e=>k it (by simp) o e
 item:=by
  intro X hP hw hK hc i pins s σ H E I hf st hg
  subst hP hw hK
  obtain⟨xs,x,hq,hx⟩:=hg
  obtain⟨its,rv,p,hz⟩:=I.list hq
  obtain⟨u,hu,ru⟩:=rv.get hx
  obtain⟨f0,f1,f2,f3,f4,f5⟩:=hf it (by simp)
  refine wpAny_pyNext_list_item st p.isList (x:=u) (by simpa using hu) fun h' st' sb=>?_
  have I1:Inv X pins σ H { s with heap:=h' }:=I.turned (t':=s.toks) (fun b o hb e=>(sb.2 b hb).trans e) f0 f1 f3 f4 f5
  obtain⟨o,e,c,d⟩:=id st'
  exact⟨u,rfl,go_of (s:={ s with heap:=h' }) e c d (by decide) ⟨x,H,I1,ru,⟨rfl,fun ys hy=>by rw [I.list_inj hy hq];exact hx⟩,st',fun b hb=>(hf b hb).1⟩⟩
 done:=by
  intro X hP hw hK hc i pins s σ H E I hf st hg
  subst hP hw hK
  obtain⟨xs,hq,hx⟩:=hg
  obtain⟨its,rv,p,hz⟩:=I.list hq
  obtain⟨f0,f1,f2,f3,f4,f5⟩:=hf it (by simp)
  have hl:=rv.length
  exact wpAny_pyNext_list_end (I.ok.hd hc) st p.isList (by simp;omega) fun h' eb=>⟨rfl,I.turned (t':=s.toks) (fun b o hb e=>eb b o hb e) f0 f1 f3 f4 f5⟩
 self:=fun _ _ _ _ _ st h=>wpAny_pyIter_listiter st h
theorem turn_tuple {P:Program} {w:World} {K:W.Frag} {tg:Expr} (a it:Addr):Turn P w K tg (Itt K a) [it] it (fun i h=>h.IsTupleIter it a i) where
 mem:=by simp
 obj:=fun i h st b hb=>by
  have e:b=it:=by simpa using hb
  subst e
  obtain⟨o,e,c,d⟩:=st
  exact⟨o,e,fun v z=>by rw [d] at z;cases z⟩
 keep:=fun i h h' st k=>st.at fun o e=>k it (by simp) o e
 item:=by
  intro X hP hw hK hc i pins s σ H E I hf st hg
  subst hP hw hK
  obtain⟨xs,x,hq,hx⟩:=hg
  obtain⟨its,rv,p,hz⟩:=I.tuple hq
  obtain⟨u,hu,ru⟩:=rv.get hx
  obtain⟨f0,f1,f2,f3,f4,f5⟩:=hf it (by simp)
  refine wpAny_pyNext_tuple_item st (show s.heap.IsTuple a its.toArray from p) (x:=u) (by simpa using hu) fun h' st' sb=>?_
  have I1:Inv X pins σ H { s with heap:=h' }:=I.turned (t':=s.toks) (fun b o hb e=>(sb.2 b hb).trans e) f0 f1 f3 f4 f5
  obtain⟨o,e,c,d⟩:=id st'
  exact⟨u,rfl,go_of (s:={ s with heap:=h' }) e c d (by decide) ⟨x,H,I1,ru,⟨rfl,fun ys hy=>by rw [I.tuple_inj hy hq];exact hx⟩,st',fun b hb=>(hf b hb).1⟩⟩
 done:=by
  intro X hP hw hK hc i pins s σ H E I hf st hg
  subst hP hw hK
  obtain⟨xs,hq,hx⟩:=hg
  obtain⟨its,rv,p,hz⟩:=I.tuple hq
  obtain⟨f0,f1,f2,f3,f4,f5⟩:=hf it (by simp)
  have hl:=rv.length
  exact wpAny_pyNext_tuple_end (I.ok.hd hc) st (show s.heap.IsTuple a its.toArray from p) (by simp;omega) fun h' eb=>⟨rfl,I.turned (t':=s.toks) (fun b o hb e=>eb b o hb e) f0 f1 f3 f4 f5⟩
 self:=fun _ _ _ _ _ st h=>wpAny_pyIter_tupleiter st h
theorem turn_range {P:Program} {w:World} {K:W.Frag} {tg:Expr} (it:Addr) (lo:Int) (n:Nat):Turn P w K tg (Itr lo n) [it] it (fun i h=>IsRangeIter h it (lo+(i:Nat) * 1) ((n:Int) - (i:Nat)) 1) where
 mem:=by simp
 obj:=fun i h st b hb=>by
  have e:b=it:=by simpa using hb
  subst e
  exact⟨_,st,fun v z=>by
   have z':Data.fields _=Data.cell v:=z
   cases z'⟩
 keep:=fun i h h' st k=>k it (by simp) _ st
 item:=by
  intro X hP hw hK hc i pins s σ H E I hf st hg
  subst hP hw hK
  obtain⟨f0,f1,f2,f3,f4,f5⟩:=hf it (by simp)
  have W:=Walks.range (prog:=X.prog) (w:=X.w) (I.ok.hd hc) it lo 1 n
  refine W.item i s _ _ hg st fun v h' tk hv st' kk=>?_
  obtain⟨t,rfl⟩:=hv
  have I1:Inv X pins σ H { s with heap:=h',toks:=tk }:=I.turned (fun b o hb e=>kk b o (by simpa using hb) e) f0 f1 f3 f4 f5
  refine⟨_,rfl,go_of (s:={ s with heap:=h',toks:=tk }) (n := "range_iterator") st' rfl rfl (by decide) ⟨.int (lo+i),H,I1,⟨t,?_⟩,⟨rfl,rfl⟩,st',fun b hb=>(hf b hb).1⟩⟩
  rw [Int.mul_one]
 done:=by
  intro X hP hw hK hc i pins s σ H E I hf st hg
  subst hP hw hK
  obtain⟨f0,f1,f2,f3,f4,f5⟩:=hf it (by simp)
  exact wpAny_pyNext_range_end (I.ok.hd hc) st (by have:n<=i:=hg;omega) fun h' eb=>⟨rfl,I.turned (t':=s.toks) (fun b o hb e=>eb b o hb e) f0 f1 f3 f4 f5⟩
 self:=fun _ _ _ _ _ st h=>wpAny_pyIter_rangeiter st h
section
variable {X:Cx} {tg:Expr}
def iList (K:W.Frag) (tl:TE):TI:=fun σ H R=>tl σ H fun x H1=>∃a,x=.ref a∧(∃xs,SqL K H1 a xs)∧R (Itl K a) H1
def iTup (K:W.Frag) (tl:TE):TI:=fun σ H R=>tl σ H fun x H1=>∃a,x=.ref a∧(∃xs,SqT K H1 a xs)∧R (Itt K a) H1
theorem pi_list {l:Expr} {tl:TE} (hl:PE X l tl):PI X tg l (iList X.K tl):=by
 intro pins s σ H R I h
 refine thn (hl pins s σ H _ I h) fun v s1 ⟨x,H1,I1,r1,q1⟩=>?_
 obtain⟨a,e,⟨xs,hq⟩,q⟩:=q1
 subst e
 cases r1
 obtain⟨its,rv,p,hz⟩:=I1.list hq
 refine wpAny_pyIter_list p.isList ?_
 refine⟨s1.heap.objs.size,[s1.heap.objs.size],_,_,H1,rfl,I1.kept (t':=s1.toks) fun b o e=>Heap.get?_push_of_some _ e,turn_list a _,⟨_,Heap.get?_push_size _ rfl,rfl,rfl⟩,fun b hb=>?_,q⟩
 have e:b=s1.heap.objs.size:=by simpa using hb
 subst e
 exact I1.fpOk (Nat.le_refl _) (I1.hok.fresh (Nat.le_refl _))
theorem pi_tup {l:Expr} {tl:TE} (hl:PE X l tl):PI X tg l (iTup X.K tl):=by
 intro pins s σ H R I h
 refine thn (hl pins s σ H _ I h) fun v s1 ⟨x,H1,I1,r1,q1⟩=>?_
 obtain⟨a,e,⟨xs,hq⟩,q⟩:=q1
 subst e
 cases r1
 obtain⟨its,rv,p,hz⟩:=I1.tuple hq
 refine wpAny_pyIter_tuple (show s1.heap.IsTuple a its.toArray from p) ?_
 refine⟨s1.heap.objs.size,[s1.heap.objs.size],_,_,H1,rfl,I1.kept (t':=s1.toks) fun b o e=>Heap.get?_push_of_some _ e,turn_tuple a _,⟨_,Heap.get?_push_size _ rfl,rfl,rfl⟩,fun b hb=>?_,q⟩
 have e:b=s1.heap.objs.size:=by simpa using hb
 subst e
 exact I1.fpOk (Nat.le_refl _) (I1.hok.fresh (Nat.le_refl _))
theorem range_it {pins:List (Addr×Obj)} {σ:St} {H:Hp} {s:Shared} {R:It->Hp->Prop} {E:Value->Shared->Prop} {lo hi:Int} {t u v:Tok} {tk:Nat} (I:Inv X pins σ H s) (h1:-(2 ^ 62)<=lo) (h2:lo < 2 ^ 62) (h3:-(2 ^ 62)<=hi) (h4:hi < 2 ^ 62)
  (q:R (Itr lo (hi - lo).toNat) H):wpAny (model X.prog X.w) X.A (pyIter (.ref s.heap.objs.size)) (PIE X pins σ tg R) E { s with heap:=s.heap.push { cls:=.type "range",data:=.fields #[.int lo t,.int hi u,.int 1 v] },toks:=tk }:=by
 refine wpAny_pyIter_range (IsRange.new ..) (small_one h1 h2 h3 h4) ?_
 have I1:Inv X pins σ H { s with heap:=s.heap.push { cls:=.type "range",data:=.fields #[.int lo t,.int hi u,.int 1 v] },toks:=tk }:=I.kept fun b o e=>Heap.get?_push_of_some _ e
 refine⟨(s.heap.push { cls:=.type "range",data:=.fields #[.int lo t,.int hi u,.int 1 v] }).objs.size,[(s.heap.push { cls:=.type "range",data:=.fields #[.int lo t,.int hi u,.int 1 v] }).objs.size],_,_,H,rfl,
  I1.kept (t':=tk) fun b o e=>Heap.get?_push_of_some _ e,turn_range _ lo (hi - lo).toNat,?_,fun b hb=>?_,q⟩
 ·have e1:lo+((0:Nat):Int) * 1=lo:=by simp
  have e2:(((hi - lo).toNat:Nat):Int) - ((0:Nat):Int)=Builtin.Range.rangeSize lo hi 1:=by rw [rangeSize_one];split <;> omega
  show IsRangeIter _ _ (lo+((0:Nat):Int) * 1) ((((hi - lo).toNat:Nat):Int) - ((0:Nat):Int)) 1
  rw [e1,e2]
  exact Heap.get?_push_size _ rfl
 ·have e:b=(s.heap.push { cls:=.type "range",data:=.fields #[.int lo t,.int hi u,.int 1 v] }).objs.size:=by simpa using hb
  subst e
  exact I1.fpOk (Nat.le_refl _) (I1.hok.fresh (Nat.le_refl _))
def iRng1 (ta:TA):TI:=fun σ H R=>ta σ H fun vs H1=>∃j:Int,vs=[.int j]∧-(2 ^ 62)<=j∧j < 2 ^ 62∧R (Itr 0 j.toNat) H1
def iRng2 (ta:TA):TI:=fun σ H R=>ta σ H fun vs H1=>∃i j:Int,vs=[.int i,.int j]∧(-(2 ^ 62)<=i∧i < 2 ^ 62∧-(2 ^ 62)<=j∧j < 2 ^ 62)∧R (Itr i (j - i).toNat) H1
theorem pi_range1 {a:Expr} {ta:TA} {p pos:Pos} (hg:Gl X "range") (hm:X.mg "range" = none) (ha:PA X [a] ta) (hs:starEach [a] X.env=[(false,eval a X.env)]:=by rfl):PI X tg (.Call (.Name "range" p) [a] [] pos) (iRng1 ta):=by
 intro pins s σ H R I h
 refine Call_ (ld_blt I hg hm boot_range (PyProof.Rows.callWith_type1 (thn (ha pos pins s σ H _ I h) fun us s1 ⟨vs,H1,I1,r1,q1⟩=>?_) hs rfl))
 obtain⟨j,e,q1,q2,q⟩:=q1
 subst e
 cases r1 with
 | cons r rr=>
  cases rr
  obtain⟨t,rfl⟩:=r
  exact call_range_1 (range_it I1 (by omega) (by omega) q1 q2 (by simpa using q))
theorem pi_range2 {a b:Expr} {ta:TA} {p pos:Pos} (hg:Gl X "range") (hm:X.mg "range" = none) (ha:PA X [a,b] ta) (hs:starEach [a,b] X.env=[(false,eval a X.env),(false,eval b X.env)]:=by rfl) (hs2:starEach [b] X.env=[(false,eval b X.env)]:=by rfl):
  PI X tg (.Call (.Name "range" p) [a,b] [] pos) (iRng2 ta):=by
 intro pins s σ H R I h
 refine Call_ (ld_blt I hg hm boot_range (PyProof.Rows.callWith_type1 (thn (ha pos pins s σ H _ I h) fun us s1 ⟨vs,H1,I1,r1,q1⟩=>?_) (by rw [hs,hs2]) (by rw [hs2];rfl)))
 obtain⟨i,j,e,⟨q1,q2,q3,q4⟩,q⟩:=q1
 subst e
 cases r1 with
 | cons r rr=>
  cases rr with
  | cons r' rr=>
   cases rr
   obtain⟨t,rfl⟩:=r
   obtain⟨t',rfl⟩:=r'
   exact call_range_2 (range_it I1 q1 q2 q3 q4 q)
def tFor (wi:TI) (g:TG) (tb:TS):TS:=fun D σ H=>wi σ H fun J H1=>∃W:Nat->Nat->St->Hp->Prop,(∃m,W 0 m σ H1)∧∀i m σ H,W i m σ H->
 (J.stop i H∧D.nx σ H)∨(J.go i H∧∃N:St->Hp->Prop,(∀σ' H',N σ' H'->∃m',m' < m∧W (i+1) m' σ' H')∧∀x H',J.yld i H x H'->g x σ H' fun σ2 H2=>tb { D with nx:=N,ct:=N,bk:=D.nx } σ2 H2)
def pinsAt (fp:List Addr) (h:Heap):List (Addr×Obj):=fp.filterMap fun b=>(h.get? b).map fun o=>(b,o)
theorem mem_pinsAt {fp:List Addr} {h:Heap} {b:Addr} {o:Obj} (hb:b∈fp) (e:h.get? b=some o):(b,o)∈pinsAt fp h:=List.mem_filterMap.mpr ⟨b,hb,by rw [e];rfl⟩
theorem of_pinsAt {fp:List Addr} {h:Heap} {p:Addr×Obj} (hp:p∈pinsAt fp h):p.1∈fp∧h.get? p.1=some p.2:=by
 obtain⟨b,hb,e⟩:=List.mem_filterMap.mp hp
 cases q:h.get? b with
 | none=>rw [q] at e;cases e
 | some o=>
  rw [q] at e
  have e':(b,o)=p:=Option.some.inj e
  subst e'
  exact⟨hb,q⟩
theorem Inv.pinned {pins:List (Addr×Obj)} {σ:St} {H:Hp} {s:Shared} {fp:List Addr} (I:Inv X pins σ H s) (hf:∀b∈fp,FpOk X pins H b) (ho:∀b∈fp,∃o,s.heap.get? b=some o∧∀v,o.data≠.cell v):Inv X (pins++pinsAt fp s.heap) σ H s:=
 I.pins_of fun p hp=>(List.mem_append.mp hp).elim (fun z=>I.pin p (List.mem_append_right _ z)) fun z=>by
  obtain⟨hb,e⟩:=of_pinsAt z
  obtain⟨f0,f1,f2,_⟩:=hf p.1 hb
  obtain⟨o,e',d⟩:=ho p.1 hb
  rw [e] at e';cases e'
  exact⟨e,f0,f1,f2,d⟩
theorem Inv.unpinned {pins pl:List (Addr×Obj)} {σ:St} {H:Hp} {s:Shared} (I:Inv X (pins++pl) σ H s):Inv X pins σ H s:=I.pins_of fun p hp=>I.pin p (List.mem_append_right _ (List.mem_append_left _ hp))
theorem ps_for {iter:Expr} {body:List Stmt} {wi:TI} {g:TG} {tb:TS} {pos:Pos} (hp:PassesOwn (model X.prog X.w) X.A X.env X.xe) (hc:X.calm=true) (hi:PI X tg iter wi) (hg:PG X tg g) (hb:PSs X body tb)
  (hs:∀x,foldedSetIterable iter X.env x=pure x:=by intro _;rfl):PS X (.For tg iter body [] pos) (tFor wi g tb):=by
 intro pins s σ H D I h
 refine wpAny_For (thn (hi pins s σ H _ I h) fun v s1 h1=>thn h1 fun itv s2 h2=>?_) hs
 obtain⟨it,fp,tn,J,H2,e,I2,T,st2,f2,W,⟨m0,w0⟩,turn⟩:=h2
 subst e
 have stat:∀{H':Hp},(∀b∈fp,H' b=none)->∀b∈fp,FpOk X pins H' b:=fun hn b hb=>⟨hn b hb,(f2 b hb).2⟩
 refine codeAny_forLoop_any (fun n s'=>∃i σ' H',Inv X pins σ' H' s'∧tn i s'.heap∧(∀b∈fp,H' b=none)∧W i n σ' H') ?_ m0 ⟨0,σ,H2,I2,st2,fun b hb=>(f2 b hb).1,w0⟩
 rintro n s3 ⟨i,σ3,H3,I3,st3,fr3,w3⟩
 rcases turn i n σ3 H3 w3 with ⟨stop,qn⟩ | ⟨go,N,hN,step⟩
 ·refine wpAny_passesOwn hp (thn (T.done X rfl rfl rfl hc i pins s3 σ3 H3 X.xe I3 (stat fr3) st3 stop) fun r s4 ⟨hr,I4⟩=>?_)
  subst hr
  exact wpAny_execs_nil ⟨σ3,H3,I4,qn⟩
 ·refine wpAny_passesOwn hp (thn (T.item X rfl rfl rfl hc i pins s3 σ3 H3 X.xe I3 (stat fr3) st3 go) fun r s4 ⟨u,hr,h4⟩=>?_)
  subst hr
  refine wpAny_passesOwn hp (thn h4 fun _ s5 ⟨x,H5,I5,r5,y5,st5,fr5⟩=>?_)
  have I5':=I5.pinned (stat fr5) (T.obj _ _ st5)
  refine wpAny_passesOwn hp (thn (hg _ s5 σ3 H5 x u _ I5' r5 (step x H5 y5)) fun _ s6 ⟨σ6,H6,I6,q6⟩=>?_)
  refine wpAny_passesOwn hp (thn (hb _ s6 σ6 H6 _ I6 q6) fun f s7 q7=>?_)
  have again:∀{σ7:St} {H7:Hp},Inv X (pins++pinsAt fp s5.heap) σ7 H7 s7->N σ7 H7->∃m,m < n∧∃i σ' H',Inv X pins σ' H' s7∧tn i s7.heap∧(∀b∈fp,H' b=none)∧W i m σ' H':=fun {σ7 H7} I7 n7=>by
   obtain⟨m',hm,w7⟩:=hN σ7 H7 n7
   refine⟨m',hm,i+1,σ7,H7,I7.unpinned,T.keep _ _ _ st5 fun b hb o e=>(I7.pin (b,o) (List.mem_append_right _ (List.mem_append_right _ (mem_pinsAt hb e)))).1,fun b hb=>?_,w7⟩
   obtain⟨o,e,d⟩:=T.obj _ _ st5 b hb
   exact (I7.pin (b,o) (List.mem_append_right _ (List.mem_append_right _ (mem_pinsAt hb e)))).2.1
  cases f with
  | next=>obtain⟨σ7,H7,I7,n7⟩:=q7;exact again I7 n7
  | cont=>obtain⟨σ7,H7,I7,n7⟩:=q7;exact again I7 n7
  | brk=>obtain⟨σ7,H7,I7,q7⟩:=q7;exact⟨σ7,H7,I7.unpinned,q7⟩
  | ret v=>obtain⟨x7,σ7,H7,I7,r7,q7⟩:=q7;exact⟨x7,σ7,H7,I7.unpinned,r7,q7⟩
end
theorem for_list {K:W.Frag} {a:Addr} {xs:List V} {g:TG} {tb:TS} {D:Ends} {σ:St} {H:Hp} (Pv:Nat->St->Hp->Prop) (h0:Pv 0 σ H) (hl:∀i σ H,i<=xs.length->Pv i σ H->SqL K H a xs)
  (hs:∀i x σ H,xs[i]?=some x->Pv i σ H->g x σ H fun σ2 H2=>tb { D with nx:=Pv (i+1),ct:=Pv (i+1),bk:=D.nx } σ2 H2) (hd:∀σ H,Pv xs.length σ H->D.nx σ H):
  ∃W:Nat->Nat->St->Hp->Prop,(∃m,W 0 m σ H)∧∀i m σ H,W i m σ H->
   ((Itl K a).stop i H∧D.nx σ H)∨((Itl K a).go i H∧∃N:St->Hp->Prop,(∀σ' H',N σ' H'->∃m',m' < m∧W (i+1) m' σ' H')∧∀x H',(Itl K a).yld i H x H'->g x σ H' fun σ2 H2=>tb { D with nx:=N,ct:=N,bk:=D.nx } σ2 H2):=by
 refine⟨fun i m σ H=>m=xs.length - i∧i<=xs.length∧Pv i σ H,⟨xs.length,by simp,Nat.zero_le _,h0⟩,?_⟩
 rintro i m σ H ⟨rfl,hi,p⟩
 have q:=hl i σ H hi p
 by_cases hlt:i < xs.length
 ·refine .inr ⟨⟨xs,xs[i],q,by simp [hlt]⟩,Pv (i+1),fun σ' H' p'=>⟨xs.length - (i+1),by omega,rfl,hlt,p'⟩,fun x H' y=>?_⟩
  obtain⟨e,y⟩:=y
  subst e
  exact hs i x σ _ (y xs q) p
 ·have e:i=xs.length:=by omega
  subst e
  exact .inl ⟨⟨xs,q,Nat.le_refl _⟩,hd σ H p⟩
theorem for_range {lo:Int} {n:Nat} {g:TG} {tb:TS} {D:Ends} {σ:St} {H:Hp} (Pv:Nat->St->Hp->Prop) (h0:Pv 0 σ H)
  (hs:∀i σ H,i < n->Pv i σ H->g (.int (lo+i)) σ H fun σ2 H2=>tb { D with nx:=Pv (i+1),ct:=Pv (i+1),bk:=D.nx } σ2 H2) (hd:∀σ H,Pv n σ H->D.nx σ H):
  ∃W:Nat->Nat->St->Hp->Prop,(∃m,W 0 m σ H)∧∀i m σ H,W i m σ H->
   ((Itr lo n).stop i H∧D.nx σ H)∨((Itr lo n).go i H∧∃N:St->Hp->Prop,(∀σ' H',N σ' H'->∃m',m' < m∧W (i+1) m' σ' H')∧∀x H',(Itr lo n).yld i H x H'->g x σ H' fun σ2 H2=>tb { D with nx:=N,ct:=N,bk:=D.nx } σ2 H2):=by
 refine⟨fun i m σ H=>m=n - i∧i<=n∧Pv i σ H,⟨n,by simp,Nat.zero_le _,h0⟩,?_⟩
 rintro i m σ H ⟨rfl,hi,p⟩
 by_cases hlt:i < n
 ·refine .inr ⟨hlt,Pv (i+1),fun σ' H' p'=>⟨n - (i+1),by omega,rfl,hlt,p'⟩,fun x H' y=>?_⟩
  obtain⟨e,y⟩:=y
  subst e y
  exact hs i σ _ hlt p
 ·have e:i=n:=by omega
  subst e
  exact .inl ⟨Nat.le_refl _,hd σ H p⟩
abbrev R2:=V->V->Hp->VK->Prop
def OpR (X:Cx) (f:Value->Value->Sem Value) (r:R2):Prop:=
 ∀(pins:List (Addr×Obj)) (s:Shared) (σ:St) (H:Hp) (x y:V) (v u:Value) (Q:VK),Inv X pins σ H s->RelV x v->RelV y u->r x y H Q->
  wpAny (model X.prog X.w) X.A (f v u) (EP X pins σ Q) X.xe s
def UnR (X:Cx) (f:Value->Sem Value) (r:V->Hp->VK->Prop):Prop:=
 ∀(pins:List (Addr×Obj)) (s:Shared) (σ:St) (H:Hp) (x:V) (v:Value) (Q:VK),Inv X pins σ H s->RelV x v->r x H Q->
  wpAny (model X.prog X.w) X.A (f v) (EP X pins σ Q) X.xe s
def CallR (X:Cx) (f:Value) (r:List V->Hp->VK->Prop):Prop:=
 ∀(pins:List (Addr×Obj)) (s:Shared) (σ:St) (H:Hp) (xs:List V) (us:List Value) (Q:VK),Inv X pins σ H s->Vals xs us->r xs H Q->
  wpAny (model X.prog X.w) X.A (call f us) (EP X pins σ Q) X.xe s
def tOp (r:R2) (ta tb:TE):TE:=fun σ H Q=>ta σ H fun x H1=>tb σ H1 fun y H2=>r x y H2 Q
def tUn (r:V->Hp->VK->Prop) (ta:TE):TE:=fun σ H Q=>ta σ H fun x H1=>r x H1 Q
def rI (C:Int->Int->Prop) (g:Int->Int->V):R2:=fun x y H Q=>∃i j,x=.int i∧y=.int j∧C i j∧Q (g i j) H
def rI0 (g:Int->Int->V):R2:=fun x y H Q=>∃i j,x=.int i∧y=.int j∧Q (g i j) H
def rU (g:Int->V):V->Hp->VK->Prop:=fun x H Q=>∃i,x=.int i∧Q (g i) H
section
variable {X:Cx} {a b c:Expr} {ta tb tc:TE} {pos:Pos}
theorem binT (ha:PE X a ta) (hb:PE X b tb) {pins:List (Addr×Obj)} {s:Shared} {σ:St} {H:Hp} {R:V->V->Hp->Prop} (I:Inv X pins σ H s)
  (h:ta σ H fun x H1=>tb σ H1 fun y H2=>R x y H2) {Q:Value->Shared->Prop} {f:Value->Value->Sem Value}
  (hf:∀v u s2 x y H2,Inv X pins σ H2 s2->RelV x v->RelV y u->R x y H2->wpAny (model X.prog X.w) X.A (f v u) Q X.xe s2):
  wpAny (model X.prog X.w) X.A (eval a X.env) (fun v s₁=>wpAny (model X.prog X.w) X.A (eval b X.env) (fun u s₂=>wpAny (model X.prog X.w) X.A (f v u) Q X.xe s₂) X.xe s₁) X.xe s:=by
 refine thn (ha pins s σ H _ I h) fun v s1 ⟨x,H1,I1,r1,q1⟩=>?_
 refine thn (hb pins s1 σ H1 _ I1 q1) fun u s2 ⟨y,H2,I2,r2,q2⟩=>?_
 exact hf v u s2 x y H2 I2 r1 r2 q2
theorem pe_op {op:Operator} {r:R2} (ho:OpR X (binaryOp op) r) (ha:PE X a ta) (hb:PE X b tb):PE X (.BinOp a op b pos) (tOp r ta tb):=by
 intro pins s σ H Q I h
 exact wpAny_BinOp (binT ha hb I h fun v u s2 x y H2 I2 rx ry q=>ho pins s2 σ H2 x y v u Q I2 rx ry q)
theorem pe_un {op:UnaryOp} {r:V->Hp->VK->Prop} (ho:UnR X (unaryOp op) r) (ha:PE X a ta):PE X (.UnaryOp op a pos) (tUn r ta):=by
 intro pins s σ H Q I h
 exact UnaryOp_ (thn (ha pins s σ H _ I h) fun v s1 ⟨x,H1,I1,r1,q1⟩=>ho pins s1 σ H1 x v Q I1 r1 q1)
theorem opI {f:Value->Value->Sem Value} {C:Int->Int->Prop} {g:Int->Int->Int}
  (rule:∀(i j:Int) (t u:Tok) (s:Shared) (Q:Value->Shared->Prop) (E:Value->Shared->Prop),C i j->Q (.int (g i j) s.toks) { s with toks:=s.toks+1 }->wpAny (model X.prog X.w) X.A (f (.int i t) (.int j u)) Q E s):
  OpR X f (rI C fun i j=>.int (g i j)):=by
 intro pins s σ H x y v u Q I rx ry h
 obtain⟨i,j,rfl,rfl,hc,q⟩:=h
 obtain⟨t,rfl⟩:=rx
 obtain⟨t',rfl⟩:=ry
 exact rule i j t t' s _ _ hc ⟨.int (g i j),H,I.tok _,⟨_,rfl⟩,q⟩
theorem opI0 {f:Value->Value->Sem Value} {g:Int->Int->Int}
  (rule:∀(i j:Int) (t u:Tok) (s:Shared) (Q:Value->Shared->Prop) (E:Value->Shared->Prop),Q (.int (g i j) s.toks) { s with toks:=s.toks+1 }->wpAny (model X.prog X.w) X.A (f (.int i t) (.int j u)) Q E s):
  OpR X f (rI0 fun i j=>.int (g i j)):=by
 intro pins s σ H x y v u Q I rx ry h
 obtain⟨i,j,rfl,rfl,q⟩:=h
 obtain⟨t,rfl⟩:=rx
 obtain⟨t',rfl⟩:=ry
 exact rule i j t t' s _ _ ⟨.int (g i j),H,I.tok _,⟨_,rfl⟩,q⟩
theorem opB0 {f:Value->Value->Sem Value} {g:Int->Int->Bool}
  (rule:∀(i j:Int) (t u:Tok) (s:Shared) (Q:Value->Shared->Prop) (E:Value->Shared->Prop),Q (.bool (g i j)) s->wpAny (model X.prog X.w) X.A (f (.int i t) (.int j u)) Q E s):
  OpR X f (rI0 fun i j=>.bl (g i j)):=by
 intro pins s σ H x y v u Q I rx ry h
 obtain⟨i,j,rfl,rfl,q⟩:=h
 obtain⟨t,rfl⟩:=rx
 obtain⟨t',rfl⟩:=ry
 exact rule i j t t' s _ _ ⟨.bl (g i j),H,I,rfl,q⟩
def CDiv (i j:Int):Prop:=0 < j∧j < 1073741824
def CPow (i j:Int):Prop:=0<=j∧j<=1000000∧i.natAbs < 2 ^ 64
def CMul (i j:Int):Prop:=(-(2 ^ 64) < i∧i < 2 ^ 64)∨(-(2 ^ 64) < j∧j < 2 ^ 64)
theorem CMul.ok {i j:Int} (h:CMul i j):IntMulOk i j:=by
 rcases h with ⟨h1,h2⟩ | ⟨h1,h2⟩
 ·exact .of_left (intBits_le_64 h1 h2)
 ·exact .of_right (intBits_le_64 h1 h2)
theorem op_add:OpR X (binaryOp .Add) (rI0 fun i j=>.int (i+j)):=opI0 fun _ _ _ _ _ _ _ q=>add_int q
theorem op_sub:OpR X (binaryOp .Sub) (rI0 fun i j=>.int (i - j)):=opI0 fun _ _ _ _ _ _ _ q=>sub_int q
theorem op_mul:OpR X (binaryOp .Mult) (rI CMul fun i j=>.int (i * j)):=opI fun _ _ _ _ _ _ _ hc q=>mul_int q hc.ok
theorem op_fdiv:OpR X (binaryOp .FloorDiv) (rI CDiv fun i j=>.int (i / j)):=opI fun i j _ _ _ _ _ hc q=>by
 have h1:(0:Int) < j:=hc.1
 have h2:j < 1073741824:=hc.2
 exact floordiv_int (by omega) (by rw [Int.fdiv_eq_ediv_of_nonneg i (by omega)];exact q) (.inl (PyProof.noPylong_small (by omega)))
theorem op_mod:OpR X (binaryOp .Mod) (rI (fun _ j=>0 < j) fun i j=>.int (i % j)):=opI fun i j _ _ _ _ _ hc q=>by
 have h1:(0:Int) < j:=hc
 exact mod_int' (by omega) (by rw [Int.fmod_eq_emod_of_nonneg i (by omega)];exact q)
theorem op_pow:OpR X (binaryOp .Pow) (rI CPow fun i j=>.int (i ^ j.toNat)):=opI fun _ _ _ _ _ _ _ hc q=>pow_int_small hc.1 hc.2.1 hc.2.2 q
theorem unI {f:Value->Sem Value} {g:Int->Int}
  (rule:∀(i:Int) (t:Tok) (s:Shared) (Q:Value->Shared->Prop) (E:Value->Shared->Prop),Q (.int (g i) s.toks) { s with toks:=s.toks+1 }->wpAny (model X.prog X.w) X.A (f (.int i t)) Q E s):
  UnR X f (rU fun i=>.int (g i)):=by
 intro pins s σ H x v Q I rx h
 obtain⟨i,rfl,q⟩:=h
 obtain⟨t,rfl⟩:=rx
 exact rule i t s _ _ ⟨.int (g i),H,I.tok _,⟨_,rfl⟩,q⟩
theorem un_neg:UnR X (unaryOp .USub) (rU fun i=>.int (-i)):=unI fun _ _ _ _ _ q=>neg_int q
end
def scal:V->V->Bool
 | .non,.non=>true | .non,.int _=>true | .int _,.non=>true | .non,.bl _=>true | .bl _,.non=>true | .non,.str _=>true | .str _,.non=>true
 | .int _,.int _=>true | .bl _,.bl _=>true | .str _,.str _=>true | .byt _,.byt _=>true
 | .int _,.str _=>true | .str _,.int _=>true | .bl _,.str _=>true | .str _,.bl _=>true
 | _,_=>false
def rEq:R2:=fun x y H Q=>scal x y=true∧Q (.bl (decide (x=y))) H
def rNe:R2:=fun x y H Q=>scal x y=true∧Q (.bl (!decide (x=y))) H
theorem dec_int {i j:Int}:decide (V.int i=V.int j)=(i == j):=by
 rw [Bool.eq_iff_iff]
 simp
theorem dec_bl {i j:Bool}:decide (V.bl i=V.bl j)=(i == j):=by
 rw [Bool.eq_iff_iff]
 simp
theorem dec_str {i j:Str}:decide (V.str i=V.str j)=(i == j):=by
 rw [Bool.eq_iff_iff]
 simp
theorem dec_byt {i j:Array UInt8}:decide (V.byt i=V.byt j)=(i.toList == j.toList):=by
 rw [Bool.eq_iff_iff]
 cases i
 cases j
 simp
section
variable {X:Cx} {a b c:Expr} {ta tb tc:TE} {pos:Pos}
theorem fin_bl {pins:List (Addr×Obj)} {σ:St} {H:Hp} {s:Shared} {Q:VK} {k k':Bool} (I:Inv X pins σ H s) (q:Q (.bl k) H) (e:k=k'):EP X pins σ Q (.bool k') s:=by
 subst e
 exact⟨.bl k,H,I,rfl,q⟩
theorem op_eq:OpR X (compareOp .Eq) rEq:=by
 intro pins s σ H x y v u Q I rx ry h
 obtain⟨hs,q⟩:=h
 cases x with
 | non=>
  cases rx
  cases y with
  | non=>cases ry;exact PySem.EqNone.eq_none_none (fin_bl I q (by simp))
  | bl j=>cases ry;exact PySem.EqNone.eq_none_bool (fin_bl I q (by simp))
  | int j=>obtain⟨t',rfl⟩:=ry;exact PySem.EqNone.eq_none_int (fin_bl I q (by simp))
  | str j=>obtain⟨t',rfl⟩:=ry;exact PySem.EqNone.eq_none_str (fin_bl I q (by simp))
  | _=>exact absurd (show false=true from hs) Bool.false_ne_true
 | bl i=>
  cases rx
  cases y with
  | non=>cases ry;exact PySem.EqNone.eq_bool_none (fin_bl I q (by simp))
  | bl j=>cases ry;exact eq_bool (fin_bl I q dec_bl)
  | str j=>obtain⟨t',rfl⟩:=ry;exact PySem.EqMixed.eq_bool_str (fin_bl I q (by simp))
  | _=>exact absurd (show false=true from hs) Bool.false_ne_true
 | int i=>
  obtain⟨t,rfl⟩:=rx
  cases y with
  | non=>cases ry;exact PySem.EqNone.eq_int_none (fin_bl I q (by simp))
  | int j=>obtain⟨t',rfl⟩:=ry;exact eq_int (fin_bl I q dec_int)
  | str j=>obtain⟨t',rfl⟩:=ry;exact PySem.EqMixed.eq_int_str (fin_bl I q (by simp))
  | _=>exact absurd (show false=true from hs) Bool.false_ne_true
 | str i=>
  obtain⟨t,rfl⟩:=rx
  cases y with
  | non=>cases ry;exact PySem.EqNone.eq_str_none (fin_bl I q (by simp))
  | bl j=>cases ry;exact PySem.EqMixed.eq_str_bool (fin_bl I q (by simp))
  | int j=>obtain⟨t',rfl⟩:=ry;exact PySem.EqMixed.eq_str_int (fin_bl I q (by simp))
  | str j=>obtain⟨t',rfl⟩:=ry;exact eq_str (fin_bl I q dec_str)
  | _=>exact absurd (show false=true from hs) Bool.false_ne_true
 | byt i=>
  obtain⟨t,rfl⟩:=rx
  cases y with
  | byt j=>obtain⟨t',rfl⟩:=ry;exact PySem.W.eq_bytes (fin_bl I q dec_byt)
  | _=>exact absurd (show false=true from hs) Bool.false_ne_true
 | _=>cases y <;> exact absurd (show false=true from hs) Bool.false_ne_true
theorem op_ne:OpR X (compareOp .NotEq) rNe:=by
 intro pins s σ H x y v u Q I rx ry h
 obtain⟨hs,q⟩:=h
 cases x with
 | non=>
  cases rx
  cases y with
  | non=>cases ry;exact PySem.EqNone.ne_none_none (fin_bl I q (by simp))
  | bl j=>cases ry;exact PySem.EqNone.ne_none_bool (fin_bl I q (by simp))
  | int j=>obtain⟨t',rfl⟩:=ry;exact PySem.EqNone.ne_none_int (fin_bl I q (by simp))
  | str j=>obtain⟨t',rfl⟩:=ry;exact PySem.EqNone.ne_none_str (fin_bl I q (by simp))
  | _=>exact absurd (show false=true from hs) Bool.false_ne_true
 | bl i=>
  cases rx
  cases y with
  | non=>cases ry;exact PySem.EqNone.ne_bool_none (fin_bl I q (by simp))
  | bl j=>cases ry;exact ne_bool (fin_bl I q (congrArg not dec_bl))
  | str j=>obtain⟨t',rfl⟩:=ry;exact PySem.EqMixed.ne_bool_str (fin_bl I q (by simp))
  | _=>exact absurd (show false=true from hs) Bool.false_ne_true
 | int i=>
  obtain⟨t,rfl⟩:=rx
  cases y with
  | non=>cases ry;exact PySem.EqNone.ne_int_none (fin_bl I q (by simp))
  | int j=>obtain⟨t',rfl⟩:=ry;exact ne_int (fin_bl I q (congrArg not dec_int))
  | str j=>obtain⟨t',rfl⟩:=ry;exact PySem.EqMixed.ne_int_str (fin_bl I q (by simp))
  | _=>exact absurd (show false=true from hs) Bool.false_ne_true
 | str i=>
  obtain⟨t,rfl⟩:=rx
  cases y with
  | non=>cases ry;exact PySem.EqNone.ne_str_none (fin_bl I q (by simp))
  | bl j=>cases ry;exact PySem.EqMixed.ne_str_bool (fin_bl I q (by simp))
  | int j=>obtain⟨t',rfl⟩:=ry;exact PySem.EqMixed.ne_str_int (fin_bl I q (by simp))
  | str j=>obtain⟨t',rfl⟩:=ry;exact ne_str (fin_bl I q (congrArg not dec_str))
  | _=>exact absurd (show false=true from hs) Bool.false_ne_true
 | byt i=>
  obtain⟨t,rfl⟩:=rx
  cases y with
  | byt j=>obtain⟨t',rfl⟩:=ry;exact PySem.W.ne_bytes (fin_bl I q (congrArg not dec_byt))
  | _=>exact absurd (show false=true from hs) Bool.false_ne_true
 | _=>cases y <;> exact absurd (show false=true from hs) Bool.false_ne_true
theorem op_lt:OpR X (compareOp .Lt) (rI0 fun i j=>.bl (decide (i < j))):=opB0 fun _ _ _ _ _ _ _ q=>lt_int q
theorem op_le:OpR X (compareOp .LtE) (rI0 fun i j=>.bl (decide (i<=j))):=opB0 fun _ _ _ _ _ _ _ q=>le_int q
theorem op_gt:OpR X (compareOp .Gt) (rI0 fun i j=>.bl (decide (j < i))):=opB0 fun _ _ _ _ _ _ _ q=>gt_int q
theorem op_in_str:OpR X (compareOp .In) (fun x y H Q=>∃i j,x=.str i∧y=.str j∧Q (.bl (!(Builtin.Str.occurrences j i 0 j.length 1).isEmpty)) H):=by
 intro pins s σ H x y v u Q I rx ry h
 obtain⟨i,j,rfl,rfl,q⟩:=h
 obtain⟨t,rfl⟩:=rx
 obtain⟨t',rfl⟩:=ry
 exact in_str (fin_bl I q rfl)
theorem op_isN:OpR X (compareOp .Is) (fun x y H Q=>y=.non∧Q (.bl (decide (x=.non))) H):=by
 intro pins s σ H x y v u Q I rx ry h
 obtain⟨rfl,q⟩:=h
 cases ry
 refine is_none_gen (fin_bl I q ?_)
 cases x <;> first
  |(cases rx;rfl)
  |(obtain⟨t,rfl⟩:=rx;rfl)
theorem op_notN:OpR X (compareOp .IsNot) (fun x y H Q=>y=.non∧Q (.bl (!decide (x=.non))) H):=by
 intro pins s σ H x y v u Q I rx ry h
 obtain⟨rfl,q⟩:=h
 cases ry
 refine isnot_none_gen (fin_bl I q ?_)
 cases x <;> first
  |(cases rx;rfl)
  |(obtain⟨t,rfl⟩:=rx;rfl)
theorem nomark (b:Expr) {op:CmpOp} (h:op≠.In:=by decide) (h2:op≠.NotIn:=by decide):behindInMarks op b=false:=by
 have e1:(op == CmpOp.In)=false:=by cases op <;> first | rfl | exact absurd rfl h
 have e2:(op == CmpOp.NotIn)=false:=by cases op <;> first | rfl | exact absurd rfl h2
 cases b <;> simp [behindInMarks,e1,e2]
theorem pe_cmpR {op:CmpOp} {r:R2} (ho:OpR X (compareOp op) r) (ha:PE X a ta) (hb:PE X b tb) (hm:behindInMarks op b=false):PE X (.Compare a [op] [b] pos) (tOp r ta tb):=by
 intro pins s σ H Q I h
 exact wpAny_Compare1 (binT ha hb I h fun v u s2 x y H2 I2 rx ry q=>ho pins s2 σ H2 x y v u Q I2 rx ry q) hm
def tTest (t:TE):TT:=fun σ H Q=>t σ H fun x H'=>∃k,x=.bl k∧Q k H'
theorem pt_cmpR {op:CmpOp} {r:R2} (ho:OpR X (compareOp op) r) (ha:PE X a ta) (hb:PE X b tb) (hm:behindInMarks op b=false):PT X (.Compare a [op] [b] pos) (tTest (tOp r ta tb)):=by
 intro pins s σ H Q I h
 refine wpAny_isTrue_Compare1 (thn (ha pins s σ H _ I h) fun v s1 ⟨x,H1,I1,r1,q1⟩=>thn (hb pins s1 σ H1 _ I1 q1) fun u s2 ⟨y,H2,I2,r2,q2⟩=>
  thn (ho pins s2 σ H2 x y v u _ I2 r1 r2 q2) fun c s3 ⟨z,H3,I3,r3,k,e,q3⟩=>?_) hm
 subst e
 cases r3
 exact wpAny_truthy_bool ⟨H3,I3,q3⟩
def tChain (r r':R2) (ta tb tc:TE):TE:=fun σ H Q=>ta σ H fun x H1=>tb σ H1 fun y H2=>r x y H2 fun z H3=>∃k,z=.bl k∧
 (if k=true then tc σ H3 fun w' H4=>r' y w' H4 Q else Q (.bl false) H3)
theorem pe_chain {op op':CmpOp} {r r':R2} (ho:OpR X (compareOp op) r) (ho':OpR X (compareOp op') r') (ha:PE X a ta) (hb:PE X b tb) (hc:PE X c tc)
  (hm:lastMarks [op,op'] [b,c]=false:=by with_unfolding_all rfl):PE X (.Compare a [op,op'] [b,c] pos) (tChain r r' ta tb tc):=by
 intro pins s σ H Q I h
 refine Compare_chain (thn (ha pins s σ H _ I h) fun v s1 ⟨x,H1,I1,r1,q1⟩=>chain_link (thn (hb pins s1 σ H1 _ I1 q1) fun u s2 ⟨y,H2,I2,r2,q2⟩=>
  thn (ho pins s2 σ H2 x y v u _ I2 r1 r2 q2) fun d s3 ⟨z,H3,I3,r3,k,e,q3⟩=>?_)) hm
 subst e
 cases r3
 refine wpAny_truthy_bool ?_
 cases k with
 | false=>exact ite_ff ⟨.bl false,H3,I3,rfl,q3⟩
 | true=>exact ite_tt (chain_last (thn (hc pins s3 σ H3 _ I3 q3) fun w' s4 ⟨z',H4,I4,r4,q4⟩=>ho' pins s4 σ H4 y z' u w' Q I4 r2 r4 q4))
theorem line63:(sizeLine:Nat) < 2 ^ 63:=by rw [sizeLine_eq];decide
theorem op_add_str:OpR X (binaryOp .Add) (fun x y H Q=>∃i j,x=.str i∧y=.str j∧i.length+j.length<=sizeLine∧Q (.str (i++j)) H):=by
 intro pins s σ H x y v u Q I rx ry h
 obtain⟨i,j,rfl,rfl,hz,q⟩:=h
 obtain⟨t,rfl⟩:=rx
 obtain⟨t',rfl⟩:=ry
 exact add_str (fun t' tk=>⟨.str (i++j),H,I.tok _,⟨_,rfl⟩,q⟩) hz
theorem iop_add_str:OpR X (inplaceOp .Add) (fun x y H Q=>∃i j,x=.str i∧y=.str j∧i.length+j.length<=sizeLine∧Q (.str (i++j)) H):=by
 intro pins s σ H x y v u Q I rx ry h
 obtain⟨i,j,rfl,rfl,hz,q⟩:=h
 obtain⟨t,rfl⟩:=rx
 obtain⟨t',rfl⟩:=ry
 exact iadd_str (fun t' tk=>⟨.str (i++j),H,I.tok _,⟨_,rfl⟩,q⟩) hz
theorem vals1 {x:V} {us:List Value} (r:Vals [x] us):∃u,us=[u]∧RelV x u:=by
 cases r with
 | cons r1 r2=>cases r2;exact⟨_,rfl,r1⟩
theorem call_abs:CallR X (.builtin "abs") (fun xs H Q=>∃i,xs=[.int i]∧Q (.int (if i < 0 then -i else i)) H):=by
 intro pins s σ H xs us Q I r h
 obtain⟨i,rfl,q⟩:=h
 obtain⟨u,rfl,t,rfl⟩:=vals1 r
 exact call_abs_int fun u tk=>⟨.int (if i < 0 then -i else i),H,I.tok _,⟨_,rfl⟩,q⟩
theorem call_int1:CallR X (.type "int") (fun xs H Q=>(∃i,xs=[.int i]∧Q (.int i) H)∨∃k,xs=[.bl k]∧Q (.int (if k then 1 else 0)) H):=by
 intro pins s σ H xs us Q I r h
 rcases h with ⟨i,rfl,q⟩ | ⟨k,rfl,q⟩
 ·obtain⟨u,rfl,t,rfl⟩:=vals1 r
  exact call_int_int ⟨.int i,H,I,⟨_,rfl⟩,q⟩
 ·obtain⟨u,rfl,r1⟩:=vals1 r
  cases r1
  exact call_int_bool ⟨.int (if k then 1 else 0),H,I.tok _,⟨_,rfl⟩,q⟩
theorem call_str_int:CallR X (.type "str") (fun xs H Q=>∃i,xs=[.int i]∧i.natAbs.log2 < 1920∧Q (.str (toString i)) H):=by
 intro pins s σ H xs us Q I r h
 obtain⟨i,rfl,hz,q⟩:=h
 obtain⟨u,rfl,t,rfl⟩:=vals1 r
 exact PySem.P.str_of_int hz ⟨.str _,H,I.tok _,⟨_,rfl⟩,q⟩
end
structure ObjM (h:Heap) (x dx C:Addr) (mA:Str->Option Value):Prop where
 obj:h.get? x=some (PySem.W.instObj C dx)
 ns:h.Ns1 dx mA
 ne:dx≠x
theorem lookIn_ns {h:Heap} {dx:Addr} {mA:Str->Option Value} (n:h.Ns1 dx mA):∃od,h.get? dx=some od∧∀name,PySem.W.lookIn name od=some (mA name):=by
 obtain⟨o,es,ep,ho,hd,hk,_,hm⟩:=n
 refine⟨o,ho,fun name=>?_⟩
 have e:=hm name
 unfold nsFind findBy at e
 rw [← Array.find?_toList] at e
 unfold PySem.W.lookIn
 rw [hd]
 dsimp only
 split
 ·rename_i y q
  rw [q] at e
  exact congrArg some e
 ·rename_i q
  rw [q] at e
  have a:es.toList.any (·.refKey)=false:=by
   rw [List.any_eq_false]
   intro y hy
   obtain⟨z,t,hkey⟩:=hk y (Array.mem_toList_iff.mp hy)
   simp [DictEntry.refKey,hkey]
  have a':¬es.toList.any (·.refKey)=true:=by rw [a];exact Bool.false_ne_true
  rw [if_neg a']
  exact congrArg some e
theorem ObjM.look {h:Heap} {x dx C:Addr} {mA:Str->Option Value} (I:ObjM h x dx C mA):∃od,PySem.W.InstAt h x (PySem.W.instObj C dx) C (some od)∧∀name,PySem.W.lookIn name od=some (mA name):=
 let ⟨od,ho,hl⟩:=lookIn_ns I.ns
 ⟨od,⟨I.obj,rfl,rfl,ho⟩,hl⟩
section
variable {prog:Program} {w:World} {A:Around} {E:Value->Shared->Prop} {s:Shared} {K:W.Frag} {x dx C f:Addr} {mA:Str->Option Value} {name:Str} {v:Value}
theorem get_map {expr:Bool} {Q:Value->Shared->Prop} (X:K.In s.heap) (I:ObjM s.heap x dx C mA) (hg:PySem.W.plainGet K C name=true) (hh:PySem.W.hasDictIn K C=true)
  (ha:PySem.W.findIn K (.ref C) name=some none) (hv:mA name=some v) (hv':PySem.W.handedIn v=true) (h:Q v { s with toks:=s.toks+1 }):
  wpAny (model prog w) A (getAttr (.ref x) name expr) Q E s:=by
 obtain⟨od,J,hl⟩:=I.look
 exact PySem.W.get_value X J (PySem.W.plainGet_of hg).1 (PySem.W.findObj_own hh ha rfl (by rw [hl,hv])) hv' h
theorem get_meth {pl:Sem Bool} {Q:Value×List Value->Shared->Prop} (X:K.In s.heap) (I:ObjM s.heap x dx C mA) (hg:PySem.W.plainGet K C name=true)
  (hf:PySem.W.findIn K (.ref C) name=some (some (.ref f))) (ht:PySem.W.isFn K (.ref f)=true) (hv:mA name=none) (h:Q (.ref f,[.ref x]) s):
  wpAny (model prog w) A (getMethod (.ref x) name pl) Q E s:=by
 obtain⟨od,J,hl⟩:=I.look
 exact PySem.W.method_fn X J (PySem.W.plainGet_of hg).1 (PySem.W.plainGet_of hg).2 hf (beq_iff_eq.mp ht) (by show (PySem.W.lookIn name od).map (·.isSome)=some false;rw [hl,hv];rfl) h
theorem set_map {ns:List Str} {Q:Unit->Shared->Prop} (X:K.In s.heap) (I:ObjM s.heap x dx C mA)
  (hs:PySem.W.findIn K (.ref C) "__setattr__" = some (some (.builtin "object.__setattr__"))) (hp:PySem.W.plainOver K C=true) (ht:PySem.W.takerIn K C name=some none) (hh:PySem.W.hasDictIn K C=true)
  (hw:PySem.Within mA ns) (hsz:ns.length<=sizeLine)
  (h:∀h',ObjM h' x dx C (fun y=>if y=name then some v else mA y)->Heap.SameBut dx s.heap h'->Q () { s with heap:=h',toks:=s.toks+2 }):
  wpAny (model prog w) A (setAttr (.ref x) name v) Q E s:=by
 obtain⟨od,J,hl⟩:=I.look
 refine PySem.W.set_plain X J hs (PySem.W.osa_open (s:={ s with toks:=s.toks+1 }) (r:=none) X J hp ht fun b=>?_)
 obtain⟨cd,hc,hd'⟩:=PySem.W.any_some hh
 have hx:s.heap.get? x=some ⟨.ref C,some dx,.plain,#[]⟩:=I.obj
 refine wpAny_bind (wpAny_pure (wpAny_bind (wpAny_bind (wpAny_loadPart hx (wpAny_bind (PySem.W.Looks.here (s:={ s with toks:=s.toks+1 }) (PySem.W.looks_clsIn X hc) ?_))))))
 rw [hd']
 refine wpAny_pure (a:=some dx) (wpAny_bind (wpAny_pure (wpAny_bind ?_)))
 refine wpAny_nsSet1 (s:={ s with toks:=s.toks+1 }) I.ns fun h' hn2 hs2=>?_
 obtain⟨oD,esD,epD,hoD,hdD,hcD⟩:=hn2.count (PySem.Within.cons name v hw)
 refine wpAny_bind (wpAny_lookBehind hoD (by rw [hdD];exact pastItsLine_dict (Nat.le_trans hcD (by rw [List.length_cons];omega))) ?_)
 exact wpAny_pure (h _ ⟨(hs2.2 _ (Ne.symm I.ne)).trans I.obj,hn2,I.ne⟩ hs2)
theorem make_map {R:Result->Shared->Prop} {vs:List Value} {kw:List (Str×Value)} (X:K.In s.heap) (hm:PySem.W.makesIn K C=true)
  (hi:PySem.W.findIn K (.ref C) "__init__" = some (some (.ref f))) (hf:PySem.W.typeIn K (.ref f)=some (.type "function"))
  (h:codeAny (model prog w) (A.under (.builtin "type.__call__" ⟨.ref C :: vs,kw⟩)) (.call (.ref f) ⟨.ref (s.heap.objs.size+1) :: vs,kw⟩) (PySem.W.InitBack (s.heap.objs.size+1) R)
   { s with heap:=(s.heap.push PySem.W.emptyDict).push (PySem.W.instObj C s.heap.objs.size) }):
  codeAny (model prog w) A (.call (.ref C) ⟨vs,kw⟩) R s:=by
 obtain⟨hh,g,d,t,os⟩:=s
 exact PySem.W.make_core (PySem.W.makes_of X hm) (PySem.W.looks_findIn X hi) (fun self=>PySem.W.bind_fn X self hf) (.inl rfl) h
end
def putF (f:Str) (v:V):List (Str×V)->List (Str×V)
 | []=>[(f,v)]
 |(g,x) :: r=>if g=f then (g,v) :: r else (g,x) :: putF f v r
theorem lookup_putF (f g:Str) (v:V):∀fs:List (Str×V),(putF f v fs).lookup g=if g=f then some v else fs.lookup g
 | []=>by
  show List.lookup g [(f,v)]=_
  by_cases h:g=f
  ·have hb:(g == f)=true:=beq_iff_eq.mpr h
   simp only [List.lookup,hb,if_pos h]
  ·have hb:(g == f)=false:=beq_eq_false_iff_ne.mpr h
   simp only [List.lookup,hb,if_neg h]
 |(k,x) :: r=>by
  have ih:=lookup_putF f g v r
  rw [show putF f v ((k,x) :: r)=(if k=f then (k,v) :: r else (k,x) :: putF f v r) from rfl]
  by_cases hk:k=f
  ·rw [if_pos hk]
   by_cases h:g=k
   ·have hb:(g == k)=true:=beq_iff_eq.mpr h
    simp only [List.lookup,hb,if_pos (h.trans hk)]
   ·have hb:(g == k)=false:=beq_eq_false_iff_ne.mpr h
    simp only [List.lookup,hb,if_neg (fun e:g=f=>h (e.trans hk.symm))]
  ·rw [if_neg hk]
   by_cases h:g=k
   ·have hb:(g == k)=true:=beq_iff_eq.mpr h
    simp only [List.lookup,hb,if_neg (fun e:g=f=>hk (h.symm.trans e))]
   ·have hb:(g == k)=false:=beq_eq_false_iff_ne.mpr h
    simp only [List.lookup,hb]
    exact ih
theorem keys_putF (f:Str) (v:V):∀fs:List (Str×V),f∈(putF f v fs).map (·.1)∧∀g,g∈fs.map (·.1)->g∈(putF f v fs).map (·.1)
 | []=>⟨by simp [putF],fun g h=>by simp at h⟩
 |(k,x) :: r=>by
  obtain⟨i1,i2⟩:=keys_putF f v r
  rw [show putF f v ((k,x) :: r)=(if k=f then (k,v) :: r else (k,x) :: putF f v r) from rfl]
  by_cases hk:k=f
  ·rw [if_pos hk]
   subst hk
   exact⟨by simp,fun g h=>by simpa using h⟩
  ·rw [if_neg hk]
   refine⟨?_,fun g h=>?_⟩
   ·rw [List.map_cons]
    exact List.mem_cons_of_mem _ i1
   ·rw [List.map_cons] at h ⊢
    rcases List.mem_cons.mp h with e | e
    ·exact List.mem_cons.mpr (.inl e)
    ·exact List.mem_cons_of_mem _ (i2 g e)
theorem length_putF (f:Str) (v:V):∀fs:List (Str×V),(putF f v fs).length<=fs.length+1
 | []=>by simp [putF]
 |(k,x) :: r=>by
  have ih:=length_putF f v r
  rw [show putF f v ((k,x) :: r)=(if k=f then (k,v) :: r else (k,x) :: putF f v r) from rfl]
  by_cases hk:k=f
  ·rw [if_pos hk,List.length_cons,List.length_cons];omega
  ·rw [if_neg hk,List.length_cons,List.length_cons];omega
theorem RelO.some_of {v:V} {o:Option Value} (r:RelO (some v) o):∃u,o=some u∧RelV v u:=by
 cases o with
 | none=>exact (show False from r).elim
 | some u=>exact⟨u,rfl,r⟩
theorem RelO.none_of {o:Option Value} (r:RelO none o):o=none:=by
 cases o with
 | none=>rfl
 | some u=>exact (show False from r).elim
theorem handed_of {v:V} {u:Value} (r:RelV v u):PySem.W.handedIn u=true:=by
 cases v with
 | non=>cases (show u=Value.none from r);rfl
 | bl b=>cases (show u=Value.bool b from r);rfl
 | int i=>obtain⟨t,e⟩:=(show ∃t,u=Value.int i t from r);cases e;rfl
 | str x=>obtain⟨t,e⟩:=(show ∃t,u=Value.str x t from r);cases e;rfl
 | byt b=>obtain⟨t,e⟩:=(show ∃t,u=Value.bytes b t from r);cases e;rfl
 | flt b=>obtain⟨t,e⟩:=(show ∃t,u=Value.float b t from r);cases e;rfl
 | ref a=>cases (show u=Value.ref a from r);rfl
 | ty n=>cases (show u=Value.type n from r);rfl
section
variable {P:Program} {w:World} {H H':Hp} {h h':Heap} {a C dx:Addr} {fs fs':List (Str×V)}
theorem ins_get (hok:HOk P w H h) (e:H a=some (.ins C dx fs)):∃mA,ObjM h a dx C mA∧(∀f,RelO (fs.lookup f) (mA f))∧PySem.Within mA (fs.map (·.1))∧fs.length<=1000∧H dx=some (.own a):=by
 obtain⟨d,z,ne,ob,mA,n,r,q⟩:=(show ObjOk P w H h a (.ins C dx fs) from hok a _ e)
 exact⟨mA,⟨ob,n,ne⟩,r,q,z,d⟩
end
structure Cls (K:W.Frag) (C:Addr):Prop where
 pg:PySem.W.plainGet K C Str.empty=true
 hd:PySem.W.hasDictIn K C=true
 po:PySem.W.plainOver K C=true
 sa:PySem.W.findIn K (.ref C) "__setattr__" = some (some (.builtin "object.__setattr__"))
theorem Cls.get {K:W.Frag} {C:Addr} (c:Cls K C) (f:Str):PySem.W.plainGet K C f=true:=c.pg
def NoAttr (K:W.Frag) (C:Addr) (f:Str):Prop:=PySem.W.findIn K (.ref C) f=some none
theorem NoAttr.taker {K:W.Frag} {C:Addr} {f:Str} (n:NoAttr K C f):PySem.W.takerIn K C f=some none:=by
 unfold PySem.W.takerIn
 rw [show PySem.W.findIn K (.ref C) f=some none from n]
 rfl
structure Meth (K:W.Frag) (C:Addr) (m:Str) (f:Addr):Prop where
 at_:PySem.W.findIn K (.ref C) m=some (some (.ref f))
 fn:PySem.W.isFn K (.ref f)=true
 kp:PySem.W.keepIn K (.ref f)=true
section
variable {X:Cx} {pins:List (Addr×Obj)} {σ:St} {H:Hp} {s:Shared} {a C dx:Addr} {fs:List (Str×V)} {f:Str} {v:V} {A:Around} {E:Value->Shared->Prop}
theorem getattr_ok {b:Bool} {Q:Value->Shared->Prop} (I:Inv X pins σ H s) (e:H a=some (.ins C dx fs)) (c:Cls X.K C) (n:NoAttr X.K C f) (l:fs.lookup f=some v)
  (h:∀u s',Inv X pins σ H s'->RelV v u->Q u s'):wpAny (model X.prog X.w) A (getAttr (.ref a) f b) Q E s:=by
 obtain⟨mA,O,r,_,_,_⟩:=ins_get I.hok e
 obtain⟨u,hu,ru⟩:=RelO.some_of (v:=v) (o:=mA f) (by rw [← l];exact r f)
 exact get_map I.kIn O (c.get f) c.hd n hu (handed_of ru) (h u _ (I.tok _) ru)
theorem getmeth_ok {m:Str} {g:Addr} {pl:Sem Bool} {Q:Value×List Value->Shared->Prop} (I:Inv X pins σ H s) (e:H a=some (.ins C dx fs)) (c:Cls X.K C) (k:Meth X.K C m g) (l:fs.lookup m=none)
  (h:Q (.ref g,[.ref a]) s):wpAny (model X.prog X.w) A (getMethod (.ref a) m pl) Q E s:=by
 obtain⟨mA,O,r,_,_,_⟩:=ins_get I.hok e
 have hn:mA m=none:=RelO.none_of (by rw [← l];exact r m)
 exact get_meth I.kIn O (c.get m) k.at_ k.fn hn h
theorem setattr_ok {y:V} {u:Value} {Q:Unit->Shared->Prop} (I:Inv X pins σ H s) (e:H a=some (.ins C dx fs)) (c:Cls X.K C) (n:NoAttr X.K C f) (hl:fs.length < 1000) (ry:RelV y u)
  (h:∀s',Inv X pins σ (upd H a (.ins C dx (putF f y fs))) s'->Q () s'):wpAny (model X.prog X.w) A (setAttr (.ref a) f u) Q E s:=by
 obtain⟨mA,O,r,wi,_,ho⟩:=ins_get I.hok e
 have hz:(fs.map (·.1)).length<=sizeLine:=by rw [List.length_map,sizeLine_eq];omega
 refine set_map I.kIn O c.sa c.po n.taker c.hd wi hz fun h' O' sb=>h _ ?_
 have hd:∃o,h'.get? dx=some o:=let ⟨o,_,_,e',_⟩:=O'.ns;⟨o,e'⟩
 refine I.write (x:=a) (e:=dx) (by rw [e];exact True.intro) (.inr ho) (fun b q hb z=>(sb.2 b hb).trans z) hd ?_
 refine⟨by rw [upd_ne O.ne];exact ho,?_,O.ne,O'.obj,_,O'.ns,fun g=>?_,fun g hg=>?_⟩
 ·have:=length_putF f y fs;omega
 ·show RelO ((putF f y fs).lookup g) (if g=f then some u else mA g)
  rw [lookup_putF]
  by_cases q:g=f
  ·rw [if_pos q,if_pos q];exact ry
  ·rw [if_neg q,if_neg q];exact r g
 ·by_cases q:g=f
  ·rw [q];exact (keys_putF f y fs).1
  ·refine (keys_putF f y fs).2 g (wi g fun z=>hg ?_)
   show (if g=f then some u else mA g)=none
   rw [if_neg q];exact z
theorem Inv.made (I:Inv X pins σ H s):Inv X pins σ (upd (upd H s.heap.objs.size (.own (s.heap.objs.size+1))) (s.heap.objs.size+1) (.ins C s.heap.objs.size []))
  { s with heap:=(s.heap.push PySem.W.emptyDict).push (PySem.W.instObj C s.heap.objs.size) }:=by
 have e1:(s.heap.push PySem.W.emptyDict).get? s.heap.objs.size=some PySem.W.emptyDict:=Heap.get?_push_size s.heap rfl
 have e2:((s.heap.push PySem.W.emptyDict).push (PySem.W.instObj C s.heap.objs.size)).get? (s.heap.objs.size+1)=some (PySem.W.instObj C s.heap.objs.size):=by
  have:=Heap.get?_push_size (s.heap.push PySem.W.emptyDict) (o:=PySem.W.instObj C s.heap.objs.size) rfl
  rwa [Heap.size_push] at this
 have e3:(s.heap.push PySem.W.emptyDict).Ns s.heap.objs.size (fun _=>none):=⟨PySem.W.emptyDict,#[],_,e1,rfl,(fun e he=>absurd he (by simp)),fun _=>rfl⟩
 have I1:=I.laid (a:=s.heap.objs.size) (o:=.own (s.heap.objs.size+1)) (h':=s.heap.push PySem.W.emptyDict) (t':=s.toks) (fun b u q=>Heap.get?_push_of_some _ q) (Nat.le_refl _) ⟨_,e1⟩
 refine I1.laid (a:=s.heap.objs.size+1) (o:=.ins C s.heap.objs.size []) (t':=s.toks) (fun b u q=>Heap.get?_push_of_some _ q) (Nat.le_of_eq (Heap.size_push _ _)) ?_
 have ne:s.heap.objs.size≠s.heap.objs.size+1:=Nat.ne_of_lt (Nat.lt_succ_self _)
 refine⟨by rw [upd_ne ne,upd_same],Nat.zero_le _,ne,e2,fun _=>none,(Heap.Ns1.of_empty e3).at fun o q=>Heap.get?_push_of_some _ q,fun _=>True.intro,fun y hy=>absurd rfl hy⟩
theorem attr_of {prog:Program} {w:World} {env:Env} {e:Expr} {f:Str} {pos:Pos} {s:Shared} {Q:Value->Shared->Prop} (hb:attributeBase e f env (eval e env)=eval e env)
  (h:wpAny (model prog w) A (eval e env) (fun o s₁=>wpAny (model prog w) A (getAttr o f true) Q E s₁) E s):wpAny (model prog w) A (eval (.Attribute e f pos) env) Q E s:=
 Attribute_any_ h (by rw [arm_eval_Attribute,hb])
end
def tFld (K:W.Frag) (ta:TE) (f:Str):TE:=fun σ H Q=>ta σ H fun x H1=>∃a C dx fs v,x=.ref a∧H1 a=some (.ins C dx fs)∧Cls K C∧NoAttr K C f∧fs.lookup f=some v∧Q v H1
def sFld (K:W.Frag) (ta tv:TE) (f:Str):TS:=fun D σ H=>tv σ H fun y H1=>ta σ H1 fun x H2=>∃a C dx fs,x=.ref a∧H2 a=some (.ins C dx fs)∧Cls K C∧NoAttr K C f∧fs.length < 1000∧
 D.nx σ (upd H2 a (.ins C dx (putF f y fs)))
section
variable {X:Cx} {o e value:Expr} {f:Str} {pos pos' tpos:Pos} {ta tv:TE}
theorem pe_fld (he:PE X e ta) (hb:attributeBase e f X.env (eval e X.env)=eval e X.env):PE X (.Attribute e f pos) (tFld X.K ta f):=by
 intro pins s σ H Q I h
 refine attr_of hb (thn (he pins s σ H _ I h) fun u s1 ⟨x,H1,I1,rx,a,C,dx,fs,v,ex,ea,c,n,l,q⟩=>?_)
 subst ex
 obtain rfl:u=Value.ref a:=rx
 exact getattr_ok I1 ea c n l fun u' s2 I2 ru=>⟨v,H1,I2,ru,q⟩
theorem ps_fld (ha:PE X o ta) (hv:PE X value tv) (hs:swapsWith value (some (.Attribute o f pos')) pos.line X.env=pure false):PS X (.Assign [.Attribute o f pos'] value pos) (sFld X.K ta tv f):=by
 intro pins s σ H D I h
 refine plainObj_wpAny_Assign_Attribute (thn (hv pins s σ H _ I h) fun u s1 ⟨y,H1,I1,ry,q⟩=>thn (ha pins s1 σ H1 _ I1 q) fun ov s2 ⟨x,H2,I2,rx,a,C,dx,fs,ex,ea,c,n,l,q2⟩=>?_) hs
 subst ex
 obtain rfl:ov=Value.ref a:=rx
 exact setattr_ok I2 ea c n l ry fun s3 I3=>⟨σ,_,I3,q2⟩
theorem methcall_of {pl:Sem Bool} {m:Str} {apos:Pos} {args:List Expr} {pins:List (Addr×Obj)} {s:Shared} {σ:St} {H:Hp} {Q:Value->Shared->Prop} {te:TE} (he:PE X e te) (I:Inv X pins σ H s)
  (h:te σ H fun x H1=>∃a C dx fs g,x=.ref a∧H1 a=some (.ins C dx fs)∧Cls X.K C∧Meth X.K C m g∧fs.lookup m=none∧
   ∀s1,Inv X pins σ H1 s1->wpAny (model X.prog X.w) X.A (callWith pos (.ref g) [.ref a] (backTo pos (starEach args X.env)) (backToKw pos (keywordEach [] X.env))) Q X.xe s1)
  (ht:eval (.Call (.Attribute e m apos) args [] pos) X.env=(do
   let ov ← eval e X.env
   standAt apos.atName
   let (f,first) ← holding [ov] (getMethod ov m pl)
   callWith pos f first (backTo pos (starEach args X.env)) (backToKw pos (keywordEach [] X.env)))):
  wpAny (model X.prog X.w) X.A (eval (.Call (.Attribute e m apos) args [] pos) X.env) Q X.xe s:=by
 refine PySem.W.methodCall_KW (pl:=pl) (thn (he pins s σ H _ I h) fun u s1 ⟨x,H1,I1,rx,a,C,dx,fs,g,ex,ea,c,k,l,q⟩=>?_) ht
 subst ex
 obtain rfl:u=Value.ref a:=rx
 exact getmeth_ok I1 ea c k l (q s1 I1)
end
section
variable {X:Cx} {pins:List (Addr×Obj)} {σ:St} {H:Hp} {s:Shared} {A:Around} {E:Value->Shared->Prop} {Q:Value->Shared->Prop} {c:Value} {b:Bool}
inductive TyOf (K:W.Frag) (H:Hp):V->Value->Prop where
 | non:TyOf K H .non (.type "NoneType")
 | bl (x:Bool):TyOf K H (.bl x) (.type "bool")
 | int (i:Int):TyOf K H (.int i) (.type "int")
 | str (x:Str):TyOf K H (.str x) (.type "str")
 | flt (x:UInt64):TyOf K H (.flt x) (.type "float")
 | lst {a:Addr} {xs:List V} (e:H a=some (.lst xs)):TyOf K H (.ref a) (.type "list")
 | frz {a:Addr} {o:Obj} {xs:List V} (e:H a=some (.frz o (.lst xs))):TyOf K H (.ref a) (.type "list")
 | tup {a:Addr} {xs:List V} (e:H a=some (.tup xs)):TyOf K H (.ref a) (.type "tuple")
 | dK {a:Addr} {kvs:List (Key×V)} (e:H a=some (.dK kvs)):TyOf K H (.ref a) (.type "dict")
 | dT {a:Addr} {kvs:List (List Key×V)} (e:H a=some (.dT kvs)):TyOf K H (.ref a) (.type "dict")
 | ins {a C dx:Addr} {fs:List (Str×V)} (e:H a=some (.ins C dx fs)) (cl:Cls K C) (ha:PySem.W.findIn K (.ref C) "__class__" = some (some (.builtin "object.__class__")))
   (hn:PySem.W.specialIn K (.builtin "object.__class__") "__get__" = some (some (.builtin "getset_descriptor.__get__"))) (htk:PySem.W.takesIn K (.builtin "object.__class__")=some true)
   (hm:PySem.W.mroIn K C (.type "object")=some true):TyOf K H (.ref a) (.ref C)
theorem isinst_ok {x:V} {u t:Value} (I:Inv X pins σ H s) (rx:RelV x u) (ty:TyOf X.K H x t) (e:PySem.W.kitOne X.K t c=some b) (h:∀tk,Q (.bool b) { s with toks:=tk }):
  wpAny (model X.prog X.w) A (call (.builtin "isinstance") [u,c]) Q E s:=by
 cases ty with
 | non=>cases (show u=Value.none from rx);exact PySem.W.kia_one PySem.W.kitx_none I.kIn True.intro e (fun z=>nomatch z) h
 | bl y=>cases (show u=Value.bool y from rx);exact PySem.W.kia_one PySem.W.kitx_bool I.kIn True.intro e (fun z=>nomatch z) h
 | int i=>obtain⟨t,q⟩:=(show ∃t,u=Value.int i t from rx);cases q;exact PySem.W.kia_one PySem.W.kitx_int I.kIn True.intro e (fun z=>nomatch z) h
 | str y=>obtain⟨t,q⟩:=(show ∃t,u=Value.str y t from rx);cases q;exact PySem.W.kia_one PySem.W.kitx_str I.kIn True.intro e (fun z=>nomatch z) h
 | flt y=>obtain⟨t,q⟩:=(show ∃t,u=Value.float y t from rx);cases q;exact PySem.W.kia_one PySem.W.kitx_float I.kIn True.intro e (fun z=>nomatch z) h
 | @lst a xs ea=>
  cases (show u=Value.ref a from rx)
  obtain⟨_,_,n,_,h1⟩:=(show ObjOk X.prog X.w H s.heap a (.lst xs) from I.hok a _ ea)
  exact PySem.W.kia_one PySem.W.kitx_list I.kIn ⟨_,h1,rfl⟩ e (fun z=>nomatch z) h
 | @frz a ob xs ea=>
  cases (show u=Value.ref a from rx)
  obtain⟨_,_,_,n,_,h1⟩:=(show ObjOk X.prog X.w H s.heap a (.frz ob (.lst xs)) from I.hok a _ ea)
  exact PySem.W.kia_one PySem.W.kitx_list I.kIn ⟨_,h1,rfl⟩ e (fun z=>nomatch z) h
 | @tup a xs ea=>
  cases (show u=Value.ref a from rx)
  obtain⟨_,_,_,p⟩:=(show ObjOk X.prog X.w H s.heap a (.tup xs) from I.hok a _ ea)
  obtain⟨o,h1,h2,_⟩:=p
  exact PySem.W.kia_one PySem.W.kitx_tuple I.kIn ⟨o,h1,h2⟩ e (fun z=>nomatch z) h
 | @dK a kvs ea=>
  cases (show u=Value.ref a from rx)
  obtain⟨_,_,vs,_,p⟩:=(show ObjOk X.prog X.w H s.heap a (.dK kvs) from I.hok a _ ea)
  obtain⟨o,es,ep,h1,h2,_⟩:=p
  exact PySem.W.kia_one PySem.W.kitx_dict I.kIn ⟨o,h1,h2.1⟩ e (fun z=>nomatch z) h
 | @dT a kvs ea=>
  cases (show u=Value.ref a from rx)
  obtain⟨_,_,xs,_,o,es,ep,h1,h2,_⟩:=(show ObjOk X.prog X.w H s.heap a (.dT kvs) from I.hok a _ ea)
  exact PySem.W.kia_one PySem.W.kitx_dict I.kIn ⟨o,h1,h2.1⟩ e (fun z=>nomatch z) h
 | @ins a C dx fs ea cl ha hn htk hm=>
  cases (show u=Value.ref a from rx)
  obtain⟨mA,O,_⟩:=ins_get I.hok ea
  obtain⟨od,J,_⟩:=O.look
  exact PySem.W.kia_one (PySem.W.kitx_own (cl.get _) cl.hd ha hn htk hm) I.kIn J e (fun z=>nomatch z) h
end
structure Room (k:Nat) (A:Around):Prop where
 hd:A.handled=none
 dp:A.depth+3 * k+5 < recursionLimit
 un:A.units+16 * k+200 < cLine
theorem Room.mono {j k:Nat} {A:Around} (r:Room k A) (h:j<=k):Room j A:=⟨r.hd,by have:=r.dp;omega,by have:=r.un;omega⟩
theorem Room.deeper {k:Nat} {A:Around} (r:Room (k+1) A) (env:Env):Room k (A.deeper env):=
 ⟨r.hd,by have:=r.dp;show A.depth+1+3 * k+5 < _;omega,by have:=r.un;show A.units+3+16 * k+200 < _;omega⟩
theorem make_depth {A:Around} {C:Addr} {us:List Value} {kw:List (Str×Value)}:(A.under (.builtin "type.__call__" ⟨.ref C :: us,kw⟩)).depth=A.depth+1:=by
 first | rfl | simp [Around.under,Code.weight,Code.isCreation,Code.isGuard,Code.isCaller,Code.frames,Code.isFrame,guardIds]
theorem make_units {A:Around} {C:Addr} {us:List Value} {kw:List (Str×Value)}:(A.under (.builtin "type.__call__" ⟨.ref C :: us,kw⟩)).units=A.units+1:=by
 first | rfl | simp [Around.under,Code.cUnits,Code.frames,Code.isFrame]
theorem Room.make {k:Nat} {A:Around} (r:Room (k+1) A) (C:Addr) (us:List Value) (kw:List (Str×Value)):Room k (A.under (.builtin "type.__call__" ⟨.ref C :: us,kw⟩)):=
 ⟨r.hd,by have:=r.dp;rw [make_depth];omega,by have:=r.un;rw [make_units];omega⟩
theorem Room.depth {k:Nat} {A:Around} (r:Room k A):A.depth < recursionLimit:=by have:=r.dp;omega
theorem Room.units {k:Nat} {A:Around} (r:Room k A):A.units+64 < cLine:=by have:=r.un;omega
def tNil:TA:=fun _ H Q=>Q [] H
def tCons (ta:TE) (tr:TA):TA:=fun σ H Q=>ta σ H fun x H1=>tr σ H1 fun xs H2=>Q (x :: xs) H2
section
variable {X:Cx} {e:Expr} {es:List Expr} {te:TE} {t:TA} {pos:Pos}
theorem pa_nil:PA X [] tNil:=fun _ _ _ _ H Q I h=>Calls.spliced_nil ⟨[],H,I,.nil,h⟩
theorem pa_cons (ha:PE X e te) (hr:PA X es t) (hs:starEach (e :: es) X.env=(false,eval e X.env) :: starEach es X.env:=by rfl):PA X (e :: es) (tCons te t):=by
 intro pos pins s σ H Q I h
 rw [hs]
 show wpAny _ _ (spliced ((false,eval e X.env) :: backTo pos (starEach es X.env))) _ _ s
 refine Calls.spliced_cons (thn (ha pins s σ H _ I h) fun u s1 ⟨x,H1,I1,r1,q1⟩=>?_)
 exact thn (hr pos pins s1 σ H1 _ I1 q1) fun us s2 ⟨xs,H2,I2,r2,q2⟩=>⟨x :: xs,H2,I2,.cons r1 r2,q2⟩
def tTup (t:TA):TE:=fun σ H Q=>t σ H fun xs H1=>xs.length<=sizeLine∧∀p,H1 p=none->Q (.ref p) (upd H1 p (.tup xs))
def tLst (t:TA):TE:=fun σ H Q=>t σ H fun xs H1=>xs.length<=sizeLine∧∀p,H1 p=none->Q (.ref p) (upd H1 p (.lst xs))
theorem pe_tup {x1} (h:PA X es t):PE X (.Tuple es x1 pos) (tTup t):=by
 intro pins s σ H Q I hq
 refine wpAny_Tuple_spliced (thn (h pos pins s σ H _ I hq) fun us s1 ⟨xs,H1,I1,r,z,q⟩=>⟨by rw [← r.length];exact z,?_⟩)
 have hf:H1 s1.heap.objs.size=none:=I1.hok.fresh (Nat.le_refl _)
 refine⟨.ref s1.heap.objs.size,upd H1 s1.heap.objs.size (.tup xs),I1.laid (t':=s1.toks) (fun b u e=>Heap.get?_push_of_some _ e) (Nat.le_refl _) ?_,rfl,q _ hf⟩
 exact⟨z,us,r,⟨_,Heap.get?_push_size _ rfl,rfl,_,rfl⟩⟩
theorem pe_lst (h:PA X es t):PE X (.List es pos) (tLst t):=by
 intro pins s σ H Q I hq
 refine wpAny_List_spliced (thn (h pos pins s σ H _ I hq) fun us s1 ⟨xs,H1,I1,r,z,q⟩=>⟨by rw [← r.length];exact z,?_⟩)
 have hf:H1 s1.heap.objs.size=none:=I1.hok.fresh (Nat.le_refl _)
 refine⟨.ref s1.heap.objs.size,upd H1 s1.heap.objs.size (.lst xs),I1.laid (t':=s1.toks) (fun b u e=>Heap.get?_push_of_some _ e) (Nat.le_refl _) ?_,rfl,q _ hf⟩
 exact⟨z,us,0,r,Heap.get?_push_size _ rfl⟩
end
abbrev Sp:=List V->Hp->VK->XK->Prop
abbrev CXT:=List Env->Hp->Shared->XK->Value->Shared->Prop
structure Env0 (P:Program) (w:World) (K:W.Frag) (mg:Str->Option Value) (base:Heap) (A:Around) (outer:List Env) (s:Shared) (H:Hp):Prop where
 frames:A.frames=some outer
 mod:Mod K mg base
 bs:∀b o,base.get? b=some o->s.heap.get? b=some o∧H b=none
 bsz:base.objs.size<=s.heap.objs.size
 funs:s.heap.FunFrames base outer
 frf:∀b∈frs outer,H b=none
 hok:HOk P w H s.heap
 bare:AllBare s.gens
def CE (outer:List Env) (P:Program) (w:World) (H:Hp) (s:Shared) (Q:VK) (u:Value) (s':Shared):Prop:=
 ∃v H',s'.os=s.os∧AllBare s'.gens∧Un (frs outer) [] H H' s.heap s'.heap∧HOk P w H' s'.heap∧RelV v u∧Q v H'
def CR (CX:CXT) (outer:List Env) (P:Program) (w:World) (H:Hp) (s:Shared) (Q:VK) (E:XK) (r:Result) (s':Shared):Prop:=
 match r with
 | .ok (.ret u)=>CE outer P w H s Q u s'
 | .ok _=>False
 | .error e=>CX outer H s E e s'
structure FnOk (P:Program) (w:World) (K:W.Frag) (mg:Str->Option Value) (base:Heap) (CX:CXT) (k:Nat) (f:Addr) (fd:FuncData) (ps:List Str) (sp:Sp):Prop where
 len:∀vs H Q E,sp vs H Q E->vs.length=ps.length
 run:∀(A:Around) (outer:List Env) (s:Shared) (H:Hp) (args:Args) (us:List Value) (vs:List V) (Q:VK) (E:XK),Room k A->Env0 P w K mg base A outer s H->BindsTo s fd args (ps.zip us)->Vals vs us->sp vs H Q E->
  codeAny (model P w) A (.call (.ref f) args) (CR CX outer P w H s Q E) s
theorem FnOk.mono {P:Program} {w:World} {K:W.Frag} {mg:Str->Option Value} {base:Heap} {CX:CXT} {j k:Nat} {f:Addr} {fd:FuncData} {ps:List Str} {sp:Sp} (F:FnOk P w K mg base CX j f fd ps sp) (h:j<=k):
  FnOk P w K mg base CX k f fd ps sp:=⟨F.len,fun A outer s H args us vs Q E hr=>F.run A outer s H args us vs Q E (hr.mono h)⟩
theorem Env0.make {P:Program} {w:World} {K:W.Frag} {mg:Str->Option Value} {base:Heap} {A:Around} {outer:List Env} {s:Shared} {H:Hp} (e:Env0 P w K mg base A outer s H) (C:Addr) (us:List Value) (kw:List (Str×Value)):
  Env0 P w K mg base (A.under (.builtin "type.__call__" ⟨.ref C :: us,kw⟩)) outer s H:=⟨by first | exact e.frames | (simpa [Around.under,Code.envs,Code.isFrame,pushEnvs] using e.frames),e.mod,e.bs,e.bsz,e.funs,e.frf,e.hok,e.bare⟩
section
variable {X:Cx} {pins:List (Addr×Obj)} {σ:St} {H:Hp} {s s':Shared}
theorem Inv.env0 (I:Inv X pins σ H s):Env0 X.prog X.w X.K X.mg X.base X.A X.stack s H:=
 ⟨I.ok.frames,I.ok.mod,I.bs,Nat.le_trans I.ok.bsz I.sz,I.stack,I.stkFree,I.hok,I.bare⟩
theorem Inv.after {Q:VK} {u:Value} (I:Inv X pins σ H s) (h:CE X.stack X.prog X.w H s Q u s'):EP X pins σ Q u s':=by
 obtain⟨v,H',os,bare,un,hok,r,q⟩:=h
 obtain⟨hh,g,d,t,os'⟩:=s'
 obtain rfl:os'=s.os:=os
 exact⟨v,H',I.call (h':=hh) (g':=g) (d':=d) (t':=t) (ch:=[]) un hok bare (fun b z=>absurd z (by simp)),r,q⟩
end
def tCall (sp:Sp) (dvs:List V) (E:XK) (t:TA):TE:=fun σ H Q=>t σ H fun vs H1=>sp (vs++dvs) H1 Q E
def tMeth (C:Addr) (m:Str) (sp:Sp) (dvs:List V) (E:XK) (ta:TE) (t:TA):TE:=fun σ H Q=>ta σ H fun x H1=>∃a dx fs,x=.ref a∧H1 a=some (.ins C dx fs)∧fs.lookup m=none∧
 t σ H1 fun vs H2=>sp (x :: (vs++dvs)) H2 Q E
def tMake (C:Addr) (sp:Sp) (dvs:List V) (E:XK) (t:TA):TE:=fun σ H Q=>t σ H fun vs H1=>∀x dx,H1 x=none->H1 dx=none->dx≠x->
 sp (.ref x :: (vs++dvs)) (upd (upd H1 dx (.own x)) x (.ins C dx [])) (fun v H2=>v=.non∧Q (.ref x) H2) E
def Binds (K:W.Frag) (fd:FuncData) (ps:List Str) (ds:List Value):Prop:=
 ∀(s:Shared) (us:List Value),K.In s.heap->(us++ds).length=ps.length->BindsTo s fd ⟨us,[]⟩ (ps.zip (us++ds))
theorem Binds.all {K:W.Frag} {fd:FuncData} {ps:List Str} (h:∀us:List Value,us.length=ps.length->bindArgs fd ⟨us,[]⟩=pure (ps.zip us)):Binds K fd ps []:=fun s us _ hl=>by
 rw [List.append_nil] at hl ⊢
 exact .of_eq (h us hl)
def Passes (CX:CXT) (X:Cx) (E:XK):Prop:=∀(pins:List (Addr×Obj)) (σ:St) (H:Hp) (s:Shared) (e:Value) (s':Shared),Inv X pins σ H s->CX X.stack H s E e s'->X.xe e s'
section
variable {X:Cx} {CX:CXT} {k:Nat} {f C:Addr} {fd:FuncData} {ps:List Str} {sp:Sp} {dvs:List V} {ds:List Value} {E:XK} {x m:Str} {p pos apos:Pos} {e o:Expr} {es:List Expr} {ta:TE} {t:TA}
theorem run_fn {pins:List (Addr×Obj)} {σ:St} {H:Hp} {s:Shared} {Q:VK} {us:List Value} {vs:List V} (F:FnOk X.prog X.w X.K X.mg X.base CX k f fd ps sp) (hr:Room k X.A) (hb:Binds X.K fd ps ds) (hd:Vals dvs ds) (hx:Passes CX X E)
  (I:Inv X pins σ H s) (r:Vals vs us) (h:sp (vs++dvs) H Q E):wpAny (model X.prog X.w) X.A (call (.ref f) us) (EP X pins σ Q) X.xe s:=by
 have r2:Vals (vs++dvs) (us++ds):=r.append hd
 have hl:(us++ds).length=ps.length:=by rw [← r2.length];exact F.len _ _ _ _ h
 refine wpAny_call (codeAny_mono (F.run X.A X.stack s H ⟨us,[]⟩ (us++ds) (vs++dvs) Q E hr I.env0 (hb s us I.kIn hl) r2 h) fun r s' hq=>?_)
 cases r with
 | error e=>exact hx pins σ H s e s' I hq
 | ok fl=>
  cases fl with
  | ret u=>exact I.after hq
  | next=>exact False.elim hq
  | brk=>exact False.elim hq
  | cont=>exact False.elim hq
theorem pe_call (F:FnOk X.prog X.w X.K X.mg X.base CX k f fd ps sp) (hr:Room k X.A) (hg:Gl X x) (hm:X.mg x=some (.ref f)) (hk:PySem.W.keepIn X.K (.ref f)=true) (hb:Binds X.K fd ps ds) (hd:Vals dvs ds) (hx:Passes CX X E)
  (ha:PA X (e :: es) t) (hdb:(x == ("__debug__" : Str))=false:=by decide) (he:starEach (e :: es) X.env=(false,eval e X.env) :: starEach es X.env:=by rfl) (hpl:(backTo pos (starEach es X.env)).any (·.1)=false:=by rfl):
  PE X (.Call (.Name x p) (e :: es) [] pos) (tCall sp dvs E t):=by
 intro pins s σ H Q I h
 refine wpAny_Call_Name_kw (ld_glob I hg hm ?_ hdb)
 refine PySem.W.callWith_K (h₀:=X.base) I.ok.mod.kin hk (thn (ha pos pins s σ H _ I h) fun us s1 ⟨vs,H1,I1,r,q⟩=>⟨I1.kIn,?_⟩) he hpl
 exact run_fn F hr hb hd hx I1 r q
theorem pe_meth0 {pl:Sem Bool} (he:PE X o ta) (c:Cls X.K C) (hm:Meth X.K C m f) (F:FnOk X.prog X.w X.K X.mg X.base CX k f fd ps sp) (hr:Room k X.A) (hb:Binds X.K fd ps ds) (hd:Vals dvs ds) (hx:Passes CX X E)
  (ht:eval (.Call (.Attribute o m apos) [] [] pos) X.env=(do
   let ov ← eval o X.env
   standAt apos.atName
   let (f,first) ← holding [ov] (getMethod ov m pl)
   callWith pos f first (backTo pos (starEach [] X.env)) (backToKw pos (keywordEach [] X.env))):=by rfl):
  PE X (.Call (.Attribute o m apos) [] [] pos) (tMeth C m sp dvs E ta tNil):=by
 intro pins s σ H Q I h
 refine PySem.W.methodCall_KW (pl:=pl) (thn (he pins s σ H _ I h) fun u s1 ⟨x,H1,I1,rx,a,dx,fs,ex,ea,l,q⟩=>?_) ht
 subst ex
 obtain rfl:u=Value.ref a:=rx
 refine getmeth_ok I1 ea c hm l ?_
 exact PySem.W.callWith_K0 (first:=[.ref a]) I1.kIn hm.kp (run_fn (us:=[.ref a]) (vs:=[.ref a]) F hr hb hd hx I1 (.cons rfl .nil) q)
structure Mk (K:W.Frag) (C f:Addr):Prop where
 makes:PySem.W.makesIn K C=true
 init:PySem.W.findIn K (.ref C) "__init__" = some (some (.ref f))
 fn:PySem.W.isFn K (.ref f)=true
 kp:PySem.W.keepIn K (.ref C)=true
theorem run_make {pins:List (Addr×Obj)} {σ:St} {H:Hp} {s:Shared} {Q:VK} {us:List Value} {vs:List V} (M:Mk X.K C f) (F:FnOk X.prog X.w X.K X.mg X.base CX k f fd ps sp) (hr:Room (k+1) X.A) (hb:Binds X.K fd ps ds) (hd:Vals dvs ds)
  (hx:Passes CX X E) (I:Inv X pins σ H s) (r:Vals vs us)
  (h:∀x dx,H x=none->H dx=none->dx≠x->sp (.ref x :: (vs++dvs)) (upd (upd H dx (.own x)) x (.ins C dx [])) (fun v H2=>v=.non∧Q (.ref x) H2) E):
  wpAny (model X.prog X.w) X.A (call (.ref C) us) (EP X pins σ Q) X.xe s:=by
 have hq:=h (s.heap.objs.size+1) s.heap.objs.size (I.hok.fresh (Nat.le_succ _)) (I.hok.fresh (Nat.le_refl _)) (Nat.ne_of_lt (Nat.lt_succ_self _))
 have I2:=Inv.made (C:=C) I
 have r2:Vals (V.ref (s.heap.objs.size+1) :: (vs++dvs)) (Value.ref (s.heap.objs.size+1) :: (us++ds)):=.cons rfl (r.append hd)
 have hl:(Value.ref (s.heap.objs.size+1) :: us++ds).length=ps.length:=by
  have e:=r2.length
  rw [F.len _ _ _ _ hq] at e
  exact e.symm
 refine wpAny_call (make_map (f:=f) I.kIn M.makes M.init (beq_iff_eq.mp M.fn) (codeAny_mono (F.run _ X.stack _ _ ⟨Value.ref (s.heap.objs.size+1) :: us,[]⟩ (Value.ref (s.heap.objs.size+1) :: (us++ds)) _ _ E (hr.make C us [])
  (I2.env0.make C us []) (hb _ (Value.ref (s.heap.objs.size+1) :: us) I2.kIn hl) r2 hq) fun r s' hq'=>?_))
 cases r with
 | error e=>exact hx pins σ _ _ e s' I2 hq'
 | ok fl=>
  cases fl with
  | ret u=>
   obtain⟨v,H',I3,rv,ev,q3⟩:=I2.after hq'
   subst ev
   exact⟨rv,⟨V.ref (s.heap.objs.size+1),H',I3,rfl,q3⟩⟩
  | next=>exact False.elim hq'
  | brk=>exact False.elim hq'
  | cont=>exact False.elim hq'
theorem pe_make (M:Mk X.K C f) (F:FnOk X.prog X.w X.K X.mg X.base CX k f fd ps sp) (hr:Room (k+1) X.A) (hg:Gl X x) (hm:X.mg x=some (.ref C)) (hb:Binds X.K fd ps ds) (hd:Vals dvs ds) (hx:Passes CX X E)
  (ha:PA X (e :: es) t) (hdb:(x == ("__debug__" : Str))=false:=by decide) (he:starEach (e :: es) X.env=(false,eval e X.env) :: starEach es X.env:=by rfl) (hpl:(backTo pos (starEach es X.env)).any (·.1)=false:=by rfl):
  PE X (.Call (.Name x p) (e :: es) [] pos) (tMake C sp dvs E t):=by
 intro pins s σ H Q I h
 refine wpAny_Call_Name_kw (ld_glob I hg hm ?_ hdb)
 refine PySem.W.callWith_K (h₀:=X.base) I.ok.mod.kin M.kp (thn (ha pos pins s σ H _ I h) fun us s1 ⟨vs,H1,I1,r,q⟩=>⟨I1.kIn,?_⟩) he hpl
 exact run_make M F hr hb hd hx I1 r q
end
section
variable {X:Cx} {CX:CXT} {k:Nat} {f C:Addr} {fd:FuncData} {ps ks:List Str} {sp:Sp} {E:XK} {x m:Str} {p pos apos kpos:Pos} {e o:Expr} {es:List Expr} {kws:List Keyword} {te ta:TE} {t tk:TA} {nm:Option Str}
variable {g:List Value->List Value->List Value} {gV:List V->List V->List V}
end
structure FnScope (N P:List Str) (sc:Scope):Prop where
 kind:sc.kind=.function
 co:sc.isCoroutine=false
 gen:sc.isGenerator=false
 nd:N.Nodup
 pre:N.take P.length=P
 par:∀x∈P,sc.names.lookup x=some .local∨sc.names.lookup x=some .cell
 nofree:∀y∈sc.names,y.2≠.free
theorem bindL_out {kindOf:Str->Option NameKind} {x:Str}:∀{binds:List (Str×Value)} {m:Str->Option Value},(∀v,(x,v)∉binds)->bindL kindOf binds m x=m x
 | [],_,_=>rfl
 |(n,v) :: r,m,h=>by
  unfold bindL
  rw [bindL_out fun w hw=>h w (List.mem_cons_of_mem _ hw)]
  split
  ·have:x≠n:=by rintro rfl;exact h v List.mem_cons_self
   simp [this]
  ·rfl
theorem bindC_out {kindOf:Str->Option NameKind} {x:Str}:∀{binds:List (Str×Value)} {m:Str->Option Value},(∀v,(x,v)∉binds)->bindC kindOf binds m x=m x
 | [],_,_=>rfl
 |(n,v) :: r,m,h=>by
  unfold bindC
  rw [bindC_out fun w hw=>h w (List.mem_cons_of_mem _ hw)]
  split
  ·rfl
  ·have:x≠n:=by rintro rfl;exact h v List.mem_cons_self
   simp [this]
theorem bindL_get {kindOf:Str->Option NameKind} {x:Str} {v:Value}:∀{P:List Str} {vs:List Value} {i:Nat} {m:Str->Option Value},P.Nodup->P[i]?=some x->vs[i]?=some v->kindOf x=some .local->
  bindL kindOf (P.zip vs) m x=some v
 | [],_,_,_,_,h,_,_=>by simp at h
 | _ :: _,[],_,_,_,_,h,_=>by simp at h
 | p :: P,w :: vs,0,m,nd,h1,h2,hk=>by
  simp at h1 h2;subst h1;subst h2
  show bindL kindOf ((p,w) :: P.zip vs) m p=_
  unfold bindL
  rw [bindL_out fun v hv=>(List.nodup_cons.mp nd).1 (List.of_mem_zip hv).1,if_pos hk]
  simp
 | p :: P,w :: vs,i+1,m,nd,h1,h2,hk=>by
  show bindL kindOf ((p,w) :: P.zip vs) m x=_
  unfold bindL
  exact bindL_get (i:=i) (List.nodup_cons.mp nd).2 (by simpa using h1) (by simpa using h2) hk
theorem bindC_get {kindOf:Str->Option NameKind} {x:Str} {v:Value}:∀{P:List Str} {vs:List Value} {i:Nat} {m:Str->Option Value},P.Nodup->P[i]?=some x->vs[i]?=some v->kindOf x≠some .local->
  bindC kindOf (P.zip vs) m x=some v
 | [],_,_,_,_,h,_,_=>by simp at h
 | _ :: _,[],_,_,_,_,h,_=>by simp at h
 | p :: P,w :: vs,0,m,nd,h1,h2,hk=>by
  simp at h1 h2;subst h1;subst h2
  show bindC kindOf ((p,w) :: P.zip vs) m p=_
  unfold bindC
  rw [bindC_out fun v hv=>(List.nodup_cons.mp nd).1 (List.of_mem_zip hv).1,if_neg hk]
  simp
 | p :: P,w :: vs,i+1,m,nd,h1,h2,hk=>by
  show bindC kindOf ((p,w) :: P.zip vs) m x=_
  unfold bindC
  exact bindC_get (i:=i) (List.nodup_cons.mp nd).2 (by simpa using h1) (by simpa using h2) hk
def start (N:List Str) (vs:List V):St:=vs.map some++List.replicate (N.length - vs.length) none
noncomputable def cxOf (CX:CXT) (P:Program) (w:World) (K:W.Frag) (mg:Str->Option Value) (base:Heap) (N:List Str) (qual:Str) (scope:Scope) (f:Addr) (cd:Value) (A:Around) (outer:List Env) (s:Shared) (H:Hp) (E:XK):Cx where
 prog:=P
 w:=w
 K:=K
 mg:=mg
 base:=base
 A:=A.deeper (envOfC qual scope s.heap.objs.size f cd)
 N:=N
 s₀:=s
 H₀:=H
 env:=envOfC qual scope s.heap.objs.size f cd
 outer:=outer
 stack:=envOfC qual scope s.heap.objs.size f cd :: outer
 ex:=[]
 calm:=true
 fn:=fun _=>true
 pn:=[]
 xe:=fun e s'=>wpAny (model P w) (A.deeper (envOfC qual scope s.heap.objs.size f cd)) (leaving (envOfC qual scope s.heap.objs.size f cd) e) (fun _ s''=>CX outer H s E e s'') (fun e' s''=>CX outer H s E e' s'') s'
theorem cell_has {sc:Scope} {n:Nat} {x:Str} (h:sc.names.lookup x=some .cell):∃c,(cellsFrom n sc.names []).lookup x=some c:=by
 have q:=PySem.W.cellsFrom_some sc.names n [] (.inl h)
 exact Option.isSome_iff_exists.mp q
theorem inv_start {CX:CXT} {P:Program} {w:World} {K:W.Frag} {mg:Str->Option Value} {base:Heap} {N ps:List Str} {qual:Str} {scope:Scope} {f:Addr} {cd:Value} {A:Around} {outer:List Env} {s s1:Shared} {H:Hp} {E:XK} {us:List Value} {vs:List V}
  (S:FnScope N ps scope) (hd:A.handled=none) (e0:Env0 P w K mg base A outer s H) (hl:vs.length=ps.length) (r:Vals vs us)
  (x:InCallC s s.heap.objs.size (bindL (envOfC qual scope s.heap.objs.size f cd).kindOf (ps.zip us) fun _=>none) (cellsFrom (s.heap.objs.size+1) scope.names []) (bindC (envOfC qual scope s.heap.objs.size f cd).kindOf (ps.zip us) fun _=>none) s1):
  Inv (cxOf CX P w K mg base N qual scope f cd A outer s H E) [] (start N vs) H s1:=by
 have hpl:ps.length<=N.length:=by have:=congrArg List.length S.pre;rw [List.length_take] at this;omega
 obtain⟨h1,tk,rfl,hk⟩:=x.done
 have noA:∀b:Addr,b∉(cxOf CX P w K mg base N qual scope f cd A outer s H E).ex:=fun b z=>absurd (show b∈([]:List Addr) from z) (by simp)
 refine⟨⟨e0.mod,S.kind,rfl,rfl,Nat.le_refl _,fun y z c h1 h2=>?_,fun y hy=>?_,fun y c _ h=>?_,fun _=>hd,Around.frames_deeper e0.frames,.inr ⟨rfl,rfl⟩,fun b z=>absurd z (noA b),e0.bs,e0.bsz,fun b _ _=>noA b,fun b z=>absurd z (noA b),e0.funs,e0.frf⟩,
  rfl,e0.bare,Un.kept hk,⟨_,x.toInCall.ns,fun i y v h1 h2 h3=>?_⟩,fun y c h=>⟨_,x.cell y c h⟩,e0.hok.fresh (Nat.le_refl _),fun y c h=>?_,fun p hp=>absurd (show p∈([]:List (Addr×Obj)) from hp) (by simp),e0.hok.kept hk,?_⟩
 ·exact name_of_addr x.apart (PySem.mem_of_lookup h1) (PySem.mem_of_lookup h2)
 ·have hy:scope.names.lookup y=some .cell∨scope.names.lookup y=some .free:=hy
  rcases hy with hy | hy
  ·exact cell_has hy
  ·exact absurd rfl (S.nofree _ (PySem.mem_of_lookup hy))
 ·exact Nat.le_of_lt (x.above y c (PySem.mem_of_lookup h))
 ·have hi:i < vs.length:=by
   unfold start at h2
   by_cases hi:i < vs.length
   ·exact hi
   ·rw [List.getElem?_append_right (by simpa using hi)] at h2
    rw [List.getElem?_replicate] at h2
    split at h2 <;> cases h2
  have ha:vs[i]?=some v:=by
   unfold start at h2
   rw [List.getElem?_append_left (by simpa using hi),List.getElem?_map] at h2
   cases e:vs[i]? with
   | none=>rw [e] at h2;cases h2
   | some a=>rw [e] at h2;cases h2;rfl
  obtain⟨u,hu,rv⟩:=r.get ha
  have hp:ps[i]?=some y:=by
   rw [← S.pre,List.getElem?_take_of_lt (by omega)];exact h1
  have ndP:ps.Nodup:=by rw [← S.pre];exact S.nd.sublist (List.take_sublist _ _)
  refine⟨u,rv,?_⟩
  rcases S.par y (List.mem_of_getElem? hp) with k | k
  ·exact .inl ⟨k,bindL_get ndP hp hu k⟩
  ·obtain⟨c,e⟩:=cell_has (n:=s.heap.objs.size+1) k
   refine .inr ⟨.inl k,c,e,?_⟩
   have q:=x.cell y c e
   rw [bindC_get ndP hp hu (by show scope.names.lookup y≠_;rw [k];decide)] at q
   exact q
 ·exact e0.hok.fresh (Nat.le_of_lt (x.above y c (PySem.mem_of_lookup h)))
 ·unfold start
  show _=N.length
  rw [List.length_append,List.length_map,List.length_replicate]
  omega
theorem fn_of {CX:CXT} {P:Program} {w:World} {K:W.Frag} {mg:Str->Option Value} {base:Heap} {k:Nat} {f:Addr} {name qual:Str} {params:Arguments} {body:List Stmt} {scope:Scope} {dV kV doc pm cdv ct oc:Value} {an od:Option Addr}
  {osl:Array (Option Value)} {N ps:List Str} {sp:Sp} (lk:K.lookup f=some ⟨oc,od,.func (PySem.W.fnOf name qual params body scope dV kV doc pm an cdv ct),osl⟩) (hcd:PySem.W.codeIn K cdv qual=true) (S:FnScope N ps scope)
  (len:∀vs H Q E,sp vs H Q E->vs.length=ps.length)
  (hbody:∀(A:Around) (outer:List Env) (s:Shared) (H:Hp) (vs:List V) (Q:VK) (E:XK),Room k (A.deeper (envOfC qual scope s.heap.objs.size f cdv))->sp vs H Q E->
   ∃t,PSs (cxOf CX P w K mg base N qual scope f cdv A outer s H E) body t∧t { nx:=fun _ H'=>Q .non H',rt:=Q } (start N vs) H):
  FnOk P w K mg base CX (k+1) f (PySem.W.fnOf name qual params body scope dV kV doc pm an cdv ct) ps sp:=by
 refine⟨len,fun A outer s H args us vs Q E hr e0 hb r hsp=>?_⟩
 have hl:=len _ _ _ _ hsp
 have KX:K.In s.heap:=e0.mod.kin.keeps fun b o e=>(e0.bs b o e).1
 have lim:s.heap.NoLimit:=e0.mod.nolimit.keeps fun b o e=>(e0.bs b o e).1
 have hkind:∀y∈ps.zip us,scope.names.lookup y.1=some .local∨(scope.names.lookup y.1=some .cell∧((cellsFrom (s.heap.objs.size+1) scope.names []).lookup y.1).isSome=true):=fun ⟨n,v⟩ hy=>by
  rcases S.par n (List.of_mem_zip hy).1 with q | q
  ·exact .inl q
  ·exact .inr ⟨q,PySem.W.cellsFrom_some _ _ _ (.inl q)⟩
 refine codeAny_call_function hr.depth (KX _ _ lk) rfl S.co S.gen rfl (PySem.W.codeRec_of KX hcd) (hb _ _ _ _ ?_)
 refine wpAny_newFunctionEnv_cells S.kind hkind fun env he s1 x=>?_
 subst he
 refine⟨lim.keeps x.toInCall.keep,codeAny_func ?_⟩
 obtain⟨t,ht,hq⟩:=hbody A outer s H vs Q E (hr.deeper _) hsp
 have I:Inv (cxOf CX P w K mg base N qual scope f cdv A outer s H E) [] (start N vs) H s1:=inv_start S hr.hd e0 hl r x
 refine wpAny_mono (ht [] s1 (start N vs) H _ I hq) (fun fl s' hs=>?_) fun e s' hs=>hs
 have fin:∀{σ':St} {H':Hp} {v:V} {u:Value},Inv (cxOf CX P w K mg base N qual scope f cdv A outer s H E) [] σ' H' s'->RelV v u->Q v H'->CE outer P w H s Q u s':=
  fun {σ' H' v u} J rv q=>⟨v,H',J.os,J.bare,J.base,J.hok,rv,q⟩
 cases fl with
 | ret u=>
  obtain⟨v,σ',H',J,rv,q⟩:=hs
  exact fin J rv q
 | next=>
  obtain⟨σ',H',J,q⟩:=hs
  exact fin (v:=V.non) (u:=Value.none) J rfl q
 | brk=>
  obtain⟨_,_,_,q⟩:=hs
  exact False.elim q
 | cont=>
  obtain⟨_,_,_,q⟩:=hs
  exact False.elim q
section
variable {X:Cx} {x:Str} {p pos:Pos} {e:Expr} {es:List Expr} {t:TA} {id T:String} {r:List V->Hp->VK->Prop}
def tCB (r:List V->Hp->VK->Prop) (t:TA):TE:=fun σ H Q=>t σ H fun vs H1=>r vs H1 Q
theorem pe_callB (hc:CallR X (.builtin id) r) (hg:Gl X x) (hm:X.mg x=none) (hv:bootBuiltins x=some (.builtin id)) (ha:PA X (e :: es) t) (hn:x ≠ "__name__" := by decide) (hdb:(x == ("__debug__" : Str))=false:=by decide)
  (he:starEach (e :: es) X.env=(false,eval e X.env) :: starEach es X.env:=by rfl) (hpl:(backTo pos (starEach es X.env)).any (·.1)=false:=by rfl):PE X (.Call (.Name x p) (e :: es) [] pos) (tCB r t):=by
 intro pins s σ H Q I h
 refine wpAny_Call_Name_kw (ld_blt I hg hm hv ?_ hn hdb)
 exact PyProof.Rows.callWith_builtin1 (thn (ha pos pins s σ H _ I h) fun us s1 ⟨vs,H1,I1,r1,q1⟩=>hc pins s1 σ H1 vs us Q I1 r1 q1) he hpl
theorem pe_callTy (hc:CallR X (.type T) r) (hg:Gl X x) (hm:X.mg x=none) (hv:bootBuiltins x=some (.type T)) (ha:PA X (e :: es) t) (hn:x ≠ "__name__" := by decide) (hdb:(x == ("__debug__" : Str))=false:=by decide)
  (he:starEach (e :: es) X.env=(false,eval e X.env) :: starEach es X.env:=by rfl) (hpl:(backTo pos (starEach es X.env)).any (·.1)=false:=by rfl):PE X (.Call (.Name x p) (e :: es) [] pos) (tCB r t):=by
 intro pins s σ H Q I h
 refine wpAny_Call_Name_kw (ld_blt I hg hm hv ?_ hn hdb)
 exact PyProof.Rows.callWith_type1 (thn (ha pos pins s σ H _ I h) fun us s1 ⟨vs,H1,I1,r1,q1⟩=>hc pins s1 σ H1 vs us Q I1 r1 q1) he hpl
end
end L2
namespace HT
open PySem PyProof.Rows
section
open PySem.SeqAt
open PySem.AutoSeq1 (wpAny_loadPart')
open PySem.MeetsSeq PySem.MeetsSeq2 PySem.MeetsSeq3
end
section
variable {prog:Program} {w:World} {A:Around} {E:Value->Shared->Prop} {s:Shared}
def sIx (n d:Nat):Option Int->Nat
 | none=>d
 | some v=>if v < 0 then (v+(n:Int)).toNat else min v.toNat n
theorem sIx_le (n d:Nat) (hd:d<=n) (o:Option Int):sIx n d o<=n:=by
 cases o with
 | none=>exact hd
 | some v=>
  show (if v < 0 then (v+(n:Int)).toNat else min v.toNat n)<=n
  by_cases hv:v < 0
  ·rw [if_pos hv];omega
  ·rw [if_neg hv];exact Nat.min_le_right _ _
theorem clip_eq (v:Int) (n d:Nat):(if v < 0 then max (v+(n:Int)) 0 else min v (n:Int))=((sIx n d (some v):Nat):Int):=by
 show (if v < 0 then max (v+(n:Int)) 0 else min v (n:Int))=(((if v < 0 then (v+(n:Int)).toNat else min v.toNat n):Nat):Int)
 by_cases hv:v < 0
 ·simp only [if_pos hv];omega
 ·simp only [if_neg hv];omega
theorem adjust_gen (lo hi:Option Int) (n:Nat):Builtin.Slice.sliceAdjust lo hi 1 (n:Int)=(((sIx n 0 lo:Nat):Int),((sIx n n hi:Nat):Int)):=by
 have h1:¬((1:Int) < 0):=by omega
 unfold Builtin.Slice.sliceAdjust
 simp only [h1,if_false]
 refine Prod.ext ?_ ?_
 ·cases lo with
  | none=>rfl
  | some v=>exact clip_eq v n 0
 ·cases hi with
  | none=>rfl
  | some v=>exact clip_eq v n n
theorem places_gen (i j:Nat):Builtin.Slice.slicePlaces (i:Int) (j:Int) 1=j - i:=by
 unfold Builtin.Slice.slicePlaces
 have h1:(1:Int) > 0:=by omega
 simp only [h1,if_true,Int.ediv_one]
 split <;> omega
theorem slicePart_ {v:Value} {o:Option Int} {Q:Option Int->Shared->Prop} (p:IsPart v o) (h:Q o s):wpAny (model prog w) A (Builtin.Slice.slicePartIndex v) Q E s:=by
 cases p with
 | none=>exact slicePart_none h
 | int i t=>exact slicePart_int h
theorem sliceApplied_gen {sl:Addr} {vl vu:Value} {lo hi:Option Int} {n:Nat} {Q:Int×Int×Nat->Shared->Prop} (hs:s.heap.IsSliceOf sl vl vu .none) (pl:IsPart vl lo) (pu:IsPart vu hi)
  (h:Q (((sIx n 0 lo:Nat):Int),1,sIx n n hi - sIx n 0 lo) s):wpAny (model prog w) A (Builtin.Slice.sliceApplied (.ref sl) (pure (n:Int))) Q E s:=by
 obtain⟨os,hos,hcs,hds⟩:=id hs
 unfold Builtin.Slice.sliceApplied Builtin.Slice.sliceFields
 refine wpAny_bind (wpAny_bind (wpAny_field hos hds (x:=vl) rfl (wpAny_bind (wpAny_field hos hds (x:=vu) rfl (wpAny_bind (wpAny_field hos hds (x:=.none) rfl (wpAny_pure ?_)))))))
 refine wpAny_bind (slicePart_none ?_)
 show wpAny _ _ (if ((1:Int) == 0)=true then _ else _) _ _ s
 rw [if_neg (by decide)]
 refine wpAny_bind (slicePart_ pl (wpAny_bind (slicePart_ pu (wpAny_bind (wpAny_pure ?_)))))
 show wpAny _ _ (match Builtin.Slice.sliceAdjust lo hi 1 (n:Int) with | (lo,hi)=>pure (lo,(1:Int),Builtin.Slice.slicePlaces lo hi 1)) _ _ s
 rw [adjust_gen lo hi n]
 show wpAny _ _ (pure (((sIx n 0 lo:Nat):Int),(1:Int),Builtin.Slice.slicePlaces ((sIx n 0 lo:Nat):Int) ((sIx n n hi:Nat):Int) 1)) _ _ s
 rw [places_gen]
 exact wpAny_pure h
theorem pick_gen (xs:Array Value) (i k:Nat):((List.range k).filterMap fun (m:Nat)=>xs[((i:Int)+(m:Int) * 1).toNat]?).toArray=((xs.toList.drop i).take k).toArray:=by
 have e:(fun (m:Nat)=>xs[((i:Int)+(m:Int) * 1).toNat]?)=fun m=>xs[i+m]?:=by
  funext m
  have:((i:Int)+(m:Int) * 1).toNat=i+m:=by omega
  rw [this]
 rw [e]
 have:=pick_run xs i k
 rw [List.filterMap_map] at this
 have e2:((fun x=>xs[x]?) ∘ fun x=>i+x)=fun m=>xs[i+m]?:=rfl
 rw [e2] at this
 rw [this]
theorem getItem_tuple_cut {t sl:Addr} {items:Array Value} {vl vu:Value} {lo hi:Option Int} {Q:Value->Shared->Prop} (ht:IsTup s.heap t items) (hs:s.heap.IsSliceOf sl vl vu .none) (pl:IsPart vl lo) (pu:IsPart vu hi)
  (hw:¬(sIx items.size 0 lo=0∧sIx items.size items.size hi=items.size))
  (h:Q (.ref s.heap.objs.size) { s with heap:=s.heap.push { cls:=.type "tuple",data:=.seq ((items.toList.drop (sIx items.size 0 lo)).take (sIx items.size items.size hi - sIx items.size 0 lo)).toArray } })
  (hsz:items.size<=sizeLine):wpAny (model prog w) A (getItem (.ref t) (.ref sl)) Q E s:=by
 have htake:sizeOk (.seq ((items.toList.drop (sIx items.size 0 lo)).take (sIx items.size items.size hi - sIx items.size 0 lo)).toArray):=by
  show ((items.toList.drop (sIx items.size 0 lo)).take (sIx items.size items.size hi - sIx items.size 0 lo)).toArray.size<=sizeLine
  rw [List.size_toArray,List.length_take,List.length_drop,Array.length_toList]
  omega
 have hj:sIx items.size items.size hi<=items.size:=sIx_le _ _ (Nat.le_refl _) hi
 obtain⟨os,hos,hcs,hds⟩:=id hs
 have hTs:s.TypeIs (.ref sl) "slice" := ⟨os,hos,hcs⟩
 unfold getItem
 try with_reducible refine wpAny_holding ?_
 first | refine wpAny_bind (wpAny_pure ?_) | skip
 refine wpAny_bind (wpAny_sequenceKey ht.typeIs (by decide) ?_)
 refine wpAny_bind (wpAny_callSpecial?_slot (name:=Str.ofString "__getitem__") ht.typeIs PyProof.Rows.slot_tuple_getitem
  (wpAny_call_entry PyProof.Rows.slot_tuple_getitem ht.typeIs entry_tuple_getitem ?_ (args_tuple_getitem _ _)))
 show wpAny _ _ (Builtin.Tuple.tupleItemsOf (.ref t) >>= _) _ _ s
 refine wpAny_bind (tupleItemsOf_ ht ?_)
 refine wpAny_bind (wpAny_typeOf hTs ?_)
 rw [if_pos (by decide)]
 refine wpAny_bind (sliceApplied_gen hs pl pu ?_)
 have hno:¬((((sIx items.size 0 lo:Nat):Int) == 0 && (1:Int) == 1 && (sIx items.size items.size hi - sIx items.size 0 lo) == items.size)=true):=by
  intro q
  rw [Bool.and_eq_true,Bool.and_eq_true] at q
  have q1:((sIx items.size 0 lo:Nat):Int)=0:=eq_of_beq q.1.1
  have q2:sIx items.size items.size hi - sIx items.size 0 lo=items.size:=eq_of_beq q.2
  exact hw ⟨by omega,by omega⟩
 show wpAny _ _ (if (((sIx items.size 0 lo:Nat):Int) == 0 && (1:Int) == 1 && (sIx items.size items.size hi - sIx items.size 0 lo) == items.size)=true then _ else _) _ _ s
 rw [if_neg hno,pick_gen]
 first
  | exact wpAny_bind (m:=Builtin.Tuple.tupleExact _) (wpAny_newObj_type (wpAny_pure ⟨_,rfl,wpAny_pure h⟩) htake)
  | exact wpAny_bind (m:=Builtin.Tuple.tupleExact _) (wpAny_newObj_type (wpAny_bind (wpAny_pure (wpAny_pure ⟨_,rfl,wpAny_pure h⟩))) htake)
  | exact wpAny_bind (wpAny_bind (m:=Builtin.Tuple.tupleExact _) (wpAny_newObj_type (wpAny_pure (wpAny_pure ⟨_,rfl,wpAny_pure h⟩)) htake))
  | exact wpAny_bind (wpAny_bind (m:=Builtin.Tuple.tupleExact _) (wpAny_newObj_type (wpAny_pure ⟨_,rfl,wpAny_pure h⟩) htake))
end
end HT
namespace L2
open PySem PySem.Spec PyProof.Rows
abbrev TO:=St->Hp->(Option Int->Hp->Prop)->Prop
def PO (X:Cx) (e:Option Expr) (t:TO):Prop:=
 ∀(pins:List (Addr×Obj)) (s:Shared) (σ:St) (H:Hp) (Q:Option Int->Hp->Prop),Inv X pins σ H s->t σ H Q->
  wpAny (model X.prog X.w) X.A (evalPart e X.env) (fun u s'=>∃o H',Inv X pins σ H' s'∧IsPart u o∧Q o H') X.xe s
def tNoPart:TO:=fun _ H Q=>Q none H
def tPart (t:TE):TO:=fun σ H Q=>t σ H fun x H1=>∃i,x=.int i∧Q (some i) H1
section
variable {X:Cx} {e:Expr} {te:TE} {lo hi:Option Expr} {tl th:TO} {pos p2:Pos}
theorem po_none:PO X none tNoPart:=by
 intro pins s σ H Q I h
 rw [evalPart_none]
 exact wpAny_pure ⟨none,H,I,.none,h⟩
theorem po_some (h:PE X e te):PO X (some e) (tPart te):=by
 intro pins s σ H Q I hw
 rw [evalPart_some]
 refine thn (h pins s σ H _ I hw) fun u s1 ⟨x,H1,I1,r1,q1⟩=>?_
 obtain⟨i,rfl,q⟩:=q1
 obtain⟨t,rfl⟩:=r1
 exact⟨some i,H1,I1,.int i t,q⟩
def SlR (X:Cx) (r:V->Option Int->Option Int->Hp->VK->Prop):Prop:=
 ∀(pins:List (Addr×Obj)) (s:Shared) (σ:St) (H:Hp) (x:V) (v vl vu:Value) (lo hi:Option Int) (sl:Addr) (Q:VK),Inv X pins σ H s->RelV x v->s.heap.IsSliceOf sl vl vu .none->IsPart vl lo->IsPart vu hi->r x lo hi H Q->
  ∃T id,typeLookup (.type T) "__getitem__" = pure (some (.builtin id))∧s.TypeIs v T∧wpAny (model X.prog X.w) X.A (getItem v (.ref sl)) (EP X pins σ Q) X.xe s
def tSl (r:V->Option Int->Option Int->Hp->VK->Prop) (te:TE) (tl th:TO):TE:=fun σ H Q=>te σ H fun x H1=>tl σ H1 fun l H2=>th σ H2 fun u H3=>r x l u H3 Q
theorem pe_slice {r:V->Option Int->Option Int->Hp->VK->Prop} (hr:SlR X r) (he:PE X e te) (hl:PO X lo tl) (hu:PO X hi th):PE X (.Subscript e (.Slice lo hi none p2) pos) (tSl r te tl th):=by
 intro pins s σ H Q I h
 refine Subscript_ (thn (he pins s σ H _ I h) fun v s1 ⟨x,H1,I1,r1,q1⟩=>?_)
 refine wpAny_Slice (thn (hl pins s1 σ H1 _ I1 q1) fun vl s2 ⟨l,H2,I2,pl,q2⟩=>thn (hu pins s2 σ H2 _ I2 q2) fun vu s3 ⟨u,H3,I3,pu,q3⟩=>?_)
 rw [evalPart_none]
 refine wpAny_pure ?_
 have I4:Inv X pins σ H3 { s3 with heap:=s3.heap.push { cls:=.type "slice",data:=.fields #[vl,vu,.none] } }:=I3.kept (t':=s3.toks) fun b ob q=>Heap.get?_push_of_some _ q
 obtain⟨T,id,hT,ht,hg⟩:=hr pins { s3 with heap:=s3.heap.push { cls:=.type "slice",data:=.fields #[vl,vu,.none] } } σ H3 x v vl vu l u s3.heap.objs.size Q I4 r1 (Heap.IsSliceOf.new ..) pl pu q3
 show wpAny (model X.prog X.w) X.A (subscriptTail e (.Slice lo hi none p2) v (.ref s3.heap.objs.size)) (EP X pins σ Q) X.xe { s3 with heap:=s3.heap.push { cls:=.type "slice",data:=.fields #[vl,vu,.none] } }
 exact tail_any (ops:=[.ref s3.heap.objs.size,v]) ht hT hg (by with_unfolding_all rfl)
def cutV (xs:List V) (lo hi:Option Int):List V:=(xs.drop (HT.sIx xs.length 0 lo)).take (HT.sIx xs.length xs.length hi - HT.sIx xs.length 0 lo)
theorem cutV_length (xs:List V) (lo hi:Option Int):(cutV xs lo hi).length<=xs.length:=by
 unfold cutV
 rw [List.length_take,List.length_drop]
 omega
def rSlT (K:W.Frag):V->Option Int->Option Int->Hp->VK->Prop:=fun x lo hi H Q=>∃a xs,x=.ref a∧SqT K H a xs∧
 ¬(HT.sIx xs.length 0 lo=0∧HT.sIx xs.length xs.length hi=xs.length)∧∀p,H p=none->Q (.ref p) (upd H p (.tup (cutV xs lo hi)))
theorem sl_tup:SlR X (rSlT X.K):=by
 intro pins s σ H x v vl vu lo hi sl Q I rx hs pl pu h
 obtain⟨a,xs,rfl,hx,hw,q⟩:=h
 cases rx
 obtain⟨its,r,ht,hz⟩:=I.tuple hx
 have hlen:its.toArray.size=xs.length:=by rw [List.size_toArray];exact r.length.symm
 refine⟨"tuple",_,PyProof.Rows.slot_tuple_getitem.lookup,ht.typeIs,?_⟩
 refine HT.getItem_tuple_cut ht hs pl pu (by rw [hlen];exact hw) ?_ (by rw [hlen];exact hz)
 rw [hlen]
 refine⟨.ref s.heap.objs.size,_,I.laid (t':=s.toks) (o:=.tup (cutV xs lo hi)) (fun b ob q=>Heap.get?_push_of_some _ q) (Nat.le_refl _) ?_,rfl,q _ (I.hok.fresh (Nat.le_refl _))⟩
 exact⟨Nat.le_trans (cutV_length xs lo hi) hz,_,(r.drop (HT.sIx xs.length 0 lo)).take (HT.sIx xs.length xs.length hi - HT.sIx xs.length 0 lo),IsTup.new _ _⟩
end
def ixN (n:Nat) (i:Int):Option Nat:=if 0<=i then (if i < n then some i.toNat else none) else if -(n:Int)<=i then some (i+n).toNat else none
def atI {α:Type} (xs:List α) (i:Int):Option α:=(ixN xs.length i).bind fun j=>xs[j]?
theorem ixN_seq {n:Nat} {i:Int} {j:Nat} (h:ixN n i=some j):seqIndex? i n=some j∧j < n∧-(n:Int)<=i∧i < n:=by
 unfold ixN at h
 by_cases h0:0<=i
 ·rw [if_pos h0] at h
  by_cases h1:i < n
  ·rw [if_pos h1] at h
   have e:i.toNat=j:=Option.some.inj h
   exact⟨by rw [seqIndex_of h0 h1,e],by omega,by omega,h1⟩
  ·rw [if_neg h1] at h;cases h
 ·rw [if_neg h0] at h
  by_cases h1:-(n:Int)<=i
  ·rw [if_pos h1] at h
   have e:(i+n).toNat=j:=Option.some.inj h
   exact⟨by rw [seqIndex_neg (by omega) h1,e],by omega,h1,by omega⟩
  ·rw [if_neg h1] at h;cases h
theorem atI_get {α:Type} {xs:List α} {i:Int} {v:α} (h:atI xs i=some v):∃j,seqIndex? i xs.length=some j∧xs[j]?=some v∧j < xs.length∧-(xs.length:Int)<=i∧i < xs.length:=by
 unfold atI at h
 cases e:ixN xs.length i with
 | none=>rw [e] at h;cases h
 | some j=>
  rw [e] at h
  obtain⟨h1,h2,h3,h4⟩:=ixN_seq e
  exact⟨j,h1,h,h2,h3,h4⟩
theorem atI_nat {α:Type} {xs:List α} {j:Nat} {v:α} (h:xs[j]?=some v):atI xs (j:Int)=some v:=by
 have hj:j < xs.length:=(List.getElem?_eq_some_iff.mp h).1
 have e:ixN xs.length (j:Int)=some j:=by
  unfold ixN
  rw [if_pos (by omega),if_pos (by omega)];simp
 unfold atI;rw [e];exact h
def PlainIx (b:Expr):Prop:=∀o i,subscripted b false o i=operate [o,i] (getItem o i)
def IxR (X:Cx) (r:R2):Prop:=
 ∀(value slice:Expr) (pins:List (Addr×Obj)) (s:Shared) (σ:St) (H:Hp) (x y:V) (v u:Value) (Q:VK),Inv X pins σ H s->RelV x v->RelV y u->r x y H Q->
  subscripted slice false v u=operate [v,u] (getItem v u)->wpAny (model X.prog X.w) X.A (subscriptTail value slice v u) (EP X pins σ Q) X.xe s
def MtR (X:Cx) (id:String) (r:V->List V->Hp->VK->Prop):Prop:=
 ∀(pins:List (Addr×Obj)) (s:Shared) (σ:St) (H:Hp) (x:V) (xs:List V) (v:Value) (us:List Value) (Q:VK),Inv X pins σ H s->RelV x v->Vals xs us->r x xs H Q->
  wpAny (model X.prog X.w) X.A (call (.builtin id) (v :: us)) (EP X pins σ Q) X.xe s
section
variable {X:Cx} {a b:Expr} {ta tb:TE} {pos:Pos}
theorem pe_ix {r:R2} (hr:IxR X r) (ha:PE X a ta) (hb:PE X b tb) (hs:PlainIx b):PE X (.Subscript a b pos) (tOp r ta tb):=by
 intro pins s σ H Q I h
 exact Subscript_ (binT ha hb I h fun v u s2 x y H2 I2 rx ry q=>hr a b pins s2 σ H2 x y v u Q I2 rx ry q (hs _ _))
def rIxL (K:W.Frag):R2:=fun x y H Q=>∃p xs i v,x=.ref p∧y=.int i∧SqL K H p xs∧atI xs i=some v∧Q v H
def rIxT (K:W.Frag):R2:=fun x y H Q=>∃p xs i v,x=.ref p∧y=.int i∧SqT K H p xs∧atI xs i=some v∧Q v H
def rIxS:R2:=fun x y H Q=>∃z i c,x=.str z∧y=.int i∧z.length<=sizeLine∧atI z.cps.toList i=some c∧Q (.str ⟨#[c]⟩) H
theorem ix_list:IxR X (rIxL X.K):=by
 intro value slice pins s σ H x y v u Q I rx ry h hs
 obtain⟨p,xs,i,z,rfl,rfl,hq,he,q⟩:=h
 cases rx
 obtain⟨t,rfl⟩:=ry
 obtain⟨its,r,pl,hz⟩:=I.list hq
 obtain⟨j,h1,h2,h3,h4,h5⟩:=atI_get he
 obtain⟨w,ew,rw'⟩:=r.get h2
 have hl:=r.length
 have hn:=line63
 have fin:EP X pins σ Q w s:=⟨z,H,I,rw',q⟩
 by_cases h0:0<=i
 ·have hj:i.toNat=j:=by
   rw [seqIndex_of h0 h5] at h1
   exact Option.some.inj h1
  exact item_listR pl.isList h0 (by omega) (by rw [hj];simpa using ew) fin hs
 ·have hj:(i+(its.toArray.size:Int)).toNat=j:=by
   rw [seqIndex_neg (by omega) h4] at h1
   rw [List.size_toArray,← hl]
   exact Option.some.inj h1
  exact subscriptTail_builtinR (x:=w) pl.isList.typeIs slot_list_getitem.lookup
   (wpAny_getItem_list_neg (Q:=fun r s'=>r=w∧EP X pins σ Q r s') pl.isList (by omega) (by rw [List.size_toArray] <;> omega) (by omega) (by rw [hj];simpa using ew) ⟨rfl,fin⟩) hs
theorem ix_tup:IxR X (rIxT X.K):=by
 intro value slice pins s σ H x y v u Q I rx ry h hs
 obtain⟨p,xs,i,z,rfl,rfl,hq,he,q⟩:=h
 cases rx
 obtain⟨t,rfl⟩:=ry
 obtain⟨its,r,pl,hz⟩:=I.tuple hq
 obtain⟨j,h1,h2,h3,h4,h5⟩:=atI_get he
 obtain⟨w,ew,rw'⟩:=r.get h2
 have hl:=r.length
 have hn:=line63
 have fin:EP X pins σ Q w s:=⟨z,H,I,rw',q⟩
 exact subscriptTail_builtinR (x:=w) pl.typeIs slot_tuple_getitem.lookup
  (getItem_tuple (j:=j) (Q:=fun r s'=>r=w∧EP X pins σ Q r s') pl (by omega) (by omega) (by rw [List.size_toArray,← hl];exact h1) (by simpa using ew) ⟨rfl,fin⟩) hs
theorem ix_str:IxR X rIxS:=by
 intro value slice pins s σ H x y v u Q I rx ry h hs
 obtain⟨z,i,c,rfl,rfl,hz,he,q⟩:=h
 obtain⟨t,rfl⟩:=rx
 obtain⟨t',rfl⟩:=ry
 obtain⟨j,h1,h2,h3,h4,h5⟩:=atI_get he
 have hl:z.cps.toList.length=z.length:=by simp [Str.length]
 rw [hl] at h1 h4 h5
 have hn:=line63
 exact tail_any (typeIs_str s z t) slot_str_getitem.lookup (getItem_str (c:=c) (by
  have e1:decide (i < -(2 ^ 63:Int))=false:=decide_eq_false (by omega)
  have e2:decide (i ≥ 2 ^ 63)=false:=decide_eq_false (by omega)
  rw [e1,e2,Bool.or_false]) (by rw [h1];simpa using h2) ⟨.str ⟨#[c]⟩,H,I.tok _,⟨_,rfl⟩,q⟩) hs
theorem mapSeq_set (its:List Value) (n j:Nat) (u:Value):Obj.mapSeq (·.setIfInBounds j u) { cls:=.type "list",data:=.seq its.toArray n }={ cls:=.type "list",data:=.seq (its.set j u).toArray n }:=by
 simp [Obj.mapSeq]
theorem Inv.lst {pins:List (Addr×Obj)} {σ:St} {H:Hp} {s:Shared} {p:Addr} {xs:List V} (I:Inv X pins σ H s) (h:H p=some (.lst xs)):
  ∃(its:List Value) (n:Nat),Vals xs its∧s.heap.get? p=some { cls:=.type "list",data:=.seq its.toArray n }∧xs.length<=sizeLine:=by
 obtain⟨z,its,n,r,e⟩:=I.hok p _ h
 exact⟨its,n,r,e,z⟩
theorem Inv.lstUpd {pins:List (Addr×Obj)} {σ:St} {H:Hp} {s:Shared} {p:Addr} {xs ys:List V} {its its':List Value} {n n':Nat} {f:Obj->Obj} (I:Inv X pins σ H s) (h:H p=some (.lst xs))
  (ho:s.heap.get? p=some { cls:=.type "list",data:=.seq its.toArray n }) (hf:f { cls:=.type "list",data:=.seq its.toArray n }={ cls:=.type "list",data:=.seq its'.toArray n' }) (r:Vals ys its') (hz:ys.length<=sizeLine) (t:Nat):
  Inv X pins σ (upd H p (.lst ys)) { s with heap:=s.heap.update p f,toks:=t }:=by
 have e:(s.heap.update p f).get? p=some { cls:=.type "list",data:=.seq its'.toArray n' }:=by
  rw [Heap.get?_update_self f ho (by rw [hf] <;> rfl),hf]
 refine I.write (x:=p) (e:=p) (by rw [h];trivial) (.inl rfl) (fun b u hb q=>(Heap.get?_update_other _ _ (Ne.symm hb)).trans q) ⟨_,e⟩ ?_
 exact⟨hz,its',n',r,e⟩
def rSetL:V->V->V->Hp->(Hp->Prop)->Prop:=fun o i v H Q=>∃p xs k j,o=.ref p∧i=.int k∧H p=some (.lst xs)∧ixN xs.length k=some j∧Q (upd H p (.lst (xs.set j v)))
theorem set_list:PSet X rSetL:=by
 intro pins s σ H o i v ov iv u Q I ro ri rv h
 obtain⟨p,xs,k,j,rfl,rfl,hp,hj,q⟩:=h
 cases ro
 obtain⟨t,rfl⟩:=ri
 obtain⟨its,n,r,ho,hz⟩:=I.lst hp
 obtain⟨h1,h2,h3,h4⟩:=ixN_seq hj
 have hl:=r.length
 have hn:=line63
 have I':Inv X pins σ (upd H p (.lst (xs.set j v))) { s with heap:=s.heap.update p (Obj.mapSeq (·.setIfInBounds j u)) }:=
  I.lstUpd hp ho (mapSeq_set its n j u) (r.set rv j) (by rw [List.length_set];exact hz) s.toks
 by_cases h0:0<=k
 ·have hk:k.toNat=j:=by
   rw [seqIndex_of h0 h4] at h1
   exact Option.some.inj h1
  exact PySem.W.ki_setAt ho h0 (by omega) (by rw [List.size_toArray,← hl];exact h4) (by rw [hk];exact⟨_,I',q⟩)
 ·have hk:(k+(its.toArray.size:Int)).toNat=j:=by
   rw [seqIndex_neg (by omega) h3] at h1
   rw [List.size_toArray,← hl]
   exact Option.some.inj h1
  exact PySem.W.ki_setBack ho (by omega) (by rw [List.size_toArray,← hl];exact h3) (by omega) (by rw [hk];exact⟨_,I',q⟩)
theorem slice_bounds (lo hi:Option Int) (n:Nat):(sliceBounds lo hi none n).1=((HT.sIx n 0 lo:Nat):Int)∧(sliceBounds lo hi none n).2.1=((HT.sIx n n hi:Nat):Int)∧(sliceBounds lo hi none n).2.2=1:=by
 refine⟨?_,?_,rfl⟩
 ·cases lo with
  | none=>simp [sliceBounds,HT.sIx]
  | some i=>
   simp only [sliceBounds,HT.sIx,Option.getD_none,show (1:Int) > 0 by decide,if_true]
   by_cases h:i < 0
   ·simp only [h,if_true] <;> omega
   ·simp only [h,if_false] <;> omega
 ·cases hi with
  | none=>simp [sliceBounds,HT.sIx]
  | some i=>
   simp only [sliceBounds,HT.sIx,Option.getD_none,show (1:Int) > 0 by decide,if_true]
   by_cases h:i < 0
   ·simp only [h,if_true] <;> omega
   ·simp only [h,if_false] <;> omega
theorem slicePick_cut (its:List Value) (lo hi:Option Int):slicePick its.toArray lo hi none=((its.drop (HT.sIx its.length 0 lo)).take (HT.sIx its.length its.length hi - HT.sIx its.length 0 lo)).toArray:=by
 obtain⟨h1,h2,h3⟩:=slice_bounds lo hi its.toArray.size
 unfold slicePick
 rw [h1,h2,h3]
 simp only [sliceRange_one,pick_run,List.size_toArray] <;> rfl
def rSlL (K:W.Frag):V->Option Int->Option Int->Hp->VK->Prop:=fun x lo hi H Q=>∃a xs,x=.ref a∧SqL K H a xs∧∀p,H p=none->Q (.ref p) (upd H p (.lst (cutV xs lo hi)))
theorem sl_list:SlR X (rSlL X.K):=by
 intro pins s σ H x v vl vu lo hi sl Q I rx hs pl pu h
 obtain⟨a,xs,rfl,hx,q⟩:=h
 cases rx
 obtain⟨its,r,ht,hz⟩:=I.list hx
 have hlen:=r.length
 refine⟨"list",_,slot_list_getitem.lookup,ht.isList.typeIs,?_⟩
 refine wpAny_getItem_list_slice ht.isList hs pl pu .none (by simp) ?_ (by rw [List.size_toArray] <;> omega)
 rw [slicePick_cut,← hlen]
 refine⟨.ref s.heap.objs.size,_,I.laid (t':=s.toks) (o:=.lst (cutV xs lo hi)) (fun b ob q=>Heap.get?_push_of_some _ q) (Nat.le_refl _) ?_,rfl,q _ (I.hok.fresh (Nat.le_refl _))⟩
 exact⟨Nat.le_trans (cutV_length xs lo hi) hz,_,0,(r.drop (HT.sIx xs.length 0 lo)).take (HT.sIx xs.length xs.length hi - HT.sIx xs.length 0 lo),Heap.get?_push_size _ rfl⟩
def flatV:V->Bool
 | .non=>true
 | .bl _=>true
 | .int _=>true
 | .str _=>true
 | _=>false
def eqV:V->V->Bool
 | .non,.non=>true
 | .bl a,.bl b=>a == b
 | .bl a,.int b=>(if a then 1 else 0) == b
 | .int a,.bl b=>a == (if b then 1 else 0)
 | .int a,.int b=>a == b
 | .str a,.str b=>a == b
 | _,_=>false
theorem eqAt_V {A:Around} {s:Shared} {y x:V} {u v:Value} (ry:RelV y u) (rx:RelV x v) (fy:flatV y=true) (fx:flatV x=true):SeqAt.EqAt A s u v (eqV y x):=by
 cases y with
 | non=>
  cases ry
  cases x with
  | non=>cases rx;exact SeqAt.EqAt.same _
  | bl b=>cases rx;exact SeqAt.EqAt.none_bool b
  | int b=>obtain⟨t,rfl⟩:=rx;exact SeqAt.EqAt.none_int b t
  | str b=>obtain⟨t,rfl⟩:=rx;exact SeqAt.EqAt.none_str b t
  | _=>exact absurd (show false=true from fx) Bool.false_ne_true
 | bl a=>
  cases ry
  cases x with
  | non=>cases rx;exact SeqAt.EqAt.bool_none a
  | bl b=>cases rx;exact SeqAt.EqAt.bool_bool a b
  | int b=>obtain⟨t,rfl⟩:=rx;exact SeqAt.EqAt.bool_int a b t
  | str b=>obtain⟨t,rfl⟩:=rx;exact SeqAt.EqAt.bool_str a b t
  | _=>exact absurd (show false=true from fx) Bool.false_ne_true
 | int a=>
  obtain⟨t',rfl⟩:=ry
  cases x with
  | non=>cases rx;exact SeqAt.EqAt.int_none a t'
  | bl b=>cases rx;exact SeqAt.EqAt.int_bool a t' b
  | int b=>obtain⟨t,rfl⟩:=rx;exact SeqAt.EqAt.int_int a t' b t
  | str b=>obtain⟨t,rfl⟩:=rx;exact SeqAt.EqAt.int_str a t' b t
  | _=>exact absurd (show false=true from fx) Bool.false_ne_true
 | str a=>
  obtain⟨t',rfl⟩:=ry
  cases x with
  | non=>cases rx;exact SeqAt.EqAt.str_none a t'
  | bl b=>cases rx;exact SeqAt.EqAt.str_bool a t' b
  | int b=>obtain⟨t,rfl⟩:=rx;exact SeqAt.EqAt.str_int a t' b t
  | str b=>obtain⟨t,rfl⟩:=rx;exact SeqAt.EqAt.str_str a t' b t
  | _=>exact absurd (show false=true from fx) Bool.false_ne_true
 | _=>exact absurd (show false=true from fy) Bool.false_ne_true
def eqU (x:V) (u:Value):Bool:=match u with
 | .none=>eqV .non x
 | .bool b=>eqV (.bl b) x
 | .int i _=>eqV (.int i) x
 | .str z _=>eqV (.str z) x
 | _=>false
theorem eqU_of {x y:V} {u:Value} (r:RelV y u) (f:flatV y=true):eqU x u=eqV y x:=by
 cases y with
 | non=>cases r;rfl
 | bl b=>cases r;rfl
 | int i=>obtain⟨t,rfl⟩:=r;rfl
 | str z=>obtain⟨t,rfl⟩:=r;rfl
 | _=>exact absurd (show false=true from f) Bool.false_ne_true
theorem any_eqU {x:V}:∀{xs:List V} {us:List Value},Vals xs us->xs.all flatV=true->us.any (eqU x)=xs.any fun y=>eqV y x
 | _,_,.nil,_=>rfl
 | y :: xs,u :: us,.cons r t,f=>by
  rw [List.all_cons,Bool.and_eq_true] at f
  rw [List.any_cons,List.any_cons,eqU_of r f.1,any_eqU t f.2]
theorem mem_eqAt {A:Around} {s:Shared} {x:V} {v:Value} (rx:RelV x v) (fx:flatV x=true):∀{xs:List V} {us:List Value},Vals xs us->xs.all flatV=true->∀u∈us,SeqAt.EqAt A s u v (eqU x u)
 | _,_,.nil,_=>fun u hu=>by cases hu
 | y :: xs,u :: us,.cons r t,f=>fun u' hu=>by
  rw [List.all_cons,Bool.and_eq_true] at f
  rcases List.mem_cons.mp hu with rfl | hu
  ·rw [eqU_of r f.1];exact eqAt_V r rx f.1 fx
  ·exact mem_eqAt rx fx t f.2 u' hu
def inV (x:V) (xs:List V):Bool:=xs.any fun y=>eqV y x
def rIn (K:W.Frag) (neg:Bool):R2:=fun x y H Q=>∃p xs,y=.ref p∧(SqL K H p xs∨SqT K H p xs)∧flatV x=true∧xs.all flatV=true∧Q (.bl (if neg then !inV x xs else inV x xs)) H
theorem op_in_seq:OpR X (compareOp .In) (rIn X.K false):=by
 intro pins s σ H x y v u Q I rx ry h
 obtain⟨p,xs,rfl,hq,fx,fs,q⟩:=h
 cases ry
 rcases hq with hq | hq
 ·obtain⟨its,r,pl,hz⟩:=I.list hq
  refine SeqAt.in_listAt (eqU x) pl.isList (fun w hw=>mem_eqAt rx fx r fs w (by simpa using hw)) ⟨.bl _,H,I,rfl,?_⟩
  rw [show its.toArray.any (eqU x)=its.any (eqU x) by simp,any_eqU r fs]
  exact q
 ·obtain⟨its,r,pl,hz⟩:=I.tuple hq
  refine SeqAt.in_tupleAt (eqU x) pl (fun w hw=>mem_eqAt rx fx r fs w (by simpa using hw)) ⟨.bl _,H,I,rfl,?_⟩
  rw [show its.toArray.any (eqU x)=its.any (eqU x) by simp,any_eqU r fs]
  exact q
theorem op_notIn_seq:OpR X (compareOp .NotIn) (rIn X.K true):=by
 intro pins s σ H x y v u Q I rx ry h
 obtain⟨p,xs,rfl,hq,fx,fs,q⟩:=h
 cases ry
 rcases hq with hq | hq
 ·obtain⟨its,r,pl,hz⟩:=I.list hq
  refine SeqAt.notIn_listAt (eqU x) pl.isList (fun w hw=>mem_eqAt rx fx r fs w (by simpa using hw)) ⟨.bl _,H,I,rfl,?_⟩
  rw [show its.toArray.any (eqU x)=its.any (eqU x) by simp,any_eqU r fs]
  exact q
 ·obtain⟨its,r,pl,hz⟩:=I.tuple hq
  refine SeqAt.notIn_tupleAt (eqU x) pl (fun w hw=>mem_eqAt rx fx r fs w (by simpa using hw)) ⟨.bl _,H,I,rfl,?_⟩
  rw [show its.toArray.any (eqU x)=its.any (eqU x) by simp,any_eqU r fs]
  exact q
theorem op_notIn_str:OpR X (compareOp .NotIn) (fun x y H Q=>∃i j,x=.str i∧y=.str j∧Q (.bl (!(!(Builtin.Str.occurrences j i 0 j.length 1).isEmpty))) H):=by
 intro pins s σ H x y v u Q I rx ry h
 obtain⟨i,j,rfl,rfl,q⟩:=h
 obtain⟨t,rfl⟩:=rx
 obtain⟨t',rfl⟩:=ry
 exact notIn_str ⟨.bl _,H,I,rfl,q⟩
theorem call_len_seq:CallR X (.builtin "len") (fun xs H Q=>∃p ys,xs=[.ref p]∧(SqL X.K H p ys∨SqT X.K H p ys)∧Q (.int ys.length) H):=by
 intro pins s σ H xs us Q I r h
 obtain⟨p,ys,rfl,hq,q⟩:=h
 obtain⟨u,rfl,rx⟩:=vals1 r
 cases rx
 have hn:=line63
 rcases hq with hq | hq
 ·obtain⟨its,r',pl,hz⟩:=I.list hq
  have hlen:=r'.length
  exact Calls.call_len_list pl.isList (by simp only [List.size_toArray] <;> omega) ⟨.int ys.length,H,I.tok _,⟨s.toks+1,by rw [List.size_toArray,hlen]⟩,q⟩
 ·obtain⟨its,r',pl,hz⟩:=I.tuple hq
  have hlen:=r'.length
  exact len_tuple pl (by simp only [List.size_toArray] <;> omega) ⟨.int ys.length,H,I.tok _,⟨s.toks+1,by rw [List.size_toArray,hlen]⟩,q⟩
theorem call_len_str:CallR X (.builtin "len") (fun xs H Q=>∃z,xs=[.str z]∧z.length<=sizeLine∧Q (.int z.length) H):=by
 intro pins s σ H xs us Q I r h
 obtain⟨z,rfl,hz,q⟩:=h
 obtain⟨u,rfl,t,rfl⟩:=vals1 r
 have hn:=line63
 exact len_str (by omega) ⟨.int z.length,H,I.tok _,⟨_,rfl⟩,q⟩
theorem call_list_of:CallR X (.type "list") (fun xs H Q=>∃p ys,xs=[.ref p]∧(SqL X.K H p ys∨SqT X.K H p ys)∧∀l,H l=none->Q (.ref l) (upd H l (.lst ys))):=by
 intro pins s σ H xs us Q I r h
 obtain⟨p,ys,rfl,hq,q⟩:=h
 obtain⟨u,rfl,rx⟩:=vals1 r
 cases rx
 have fin:∀(its:List Value),Vals ys its->ys.length<=sizeLine->∀(h':Heap) (c':Nat),(∀b o',s.heap.get? b=some o'->h'.get? b=some o')->
   h'.get? s.heap.objs.size=some { cls:=.type "list",dict:=none,data:=.seq its.toArray c',slots:=#[] }->EP X pins σ Q (.ref s.heap.objs.size) { s with heap:=h' }:=fun its r' hz h' c' kp e=>
  ⟨.ref s.heap.objs.size,_,I.laid (t':=s.toks) kp (Nat.le_refl _) (show ObjOk X.prog X.w _ h' _ (.lst ys) from ⟨hz,its,c',r',e⟩),rfl,q _ (I.hok.fresh (Nat.le_refl _))⟩
 rcases hq with hq | hq
 ·obtain⟨its,r',pl,hz⟩:=I.list hq
  have hlen:=r'.length
  obtain⟨o,ho,hc,n,hd⟩:=pl.isList
  exact call_list_seq p (.inl rfl) ho hc hd (fun h' c' kp e=>fin its r' hz h' c' kp e) (by simp only [List.size_toArray] <;> omega)
 ·obtain⟨its,r',pl,hz⟩:=I.tuple hq
  have hlen:=r'.length
  obtain⟨o,ho,hc,n,hd⟩:=pl
  exact call_list_seq p (.inr rfl) ho hc hd (fun h' c' kp e=>fin its r' hz h' c' kp e) (by simp only [List.size_toArray] <;> omega)
theorem call_tuple_of:CallR X (.type "tuple") (fun xs H Q=>∃p ys,xs=[.ref p]∧((SqL X.K H p ys∧∀l,H l=none->Q (.ref l) (upd H l (.tup ys)))∨(SqT X.K H p ys∧Q (.ref p) H))):=by
 intro pins s σ H xs us Q I r h
 obtain⟨p,ys,rfl,h⟩:=h
 obtain⟨u,rfl,rx⟩:=vals1 r
 cases rx
 rcases h with ⟨hq,q⟩ | ⟨hq,q⟩
 ·obtain⟨its,r',pl,hz⟩:=I.list hq
  have hlen:=r'.length
  refine call_tuple_list pl.isList (fun h' kp=>?_) (by simp only [List.size_toArray] <;> omega)
  have I1:Inv X pins σ H { s with heap:=h' }:=I.kept (t':=s.toks) kp
  have I2:Inv X pins σ (upd H h'.objs.size (.tup ys)) { s with heap:=h'.push { cls:=.type "tuple",data:=.seq its.toArray } }:=
   I1.laid (t':=s.toks) (fun b o e=>Heap.get?_push_of_some _ e) (Nat.le_refl _) (show ObjOk X.prog X.w _ _ _ (.tup ys) from ⟨hz,its,r',IsTup.new _ _⟩)
  exact⟨.ref h'.objs.size,_,I2,rfl,q _ (I1.hok.fresh (Nat.le_refl _))⟩
 ·obtain⟨its,r',pl,hz⟩:=I.tuple hq
  exact call_tuple_same pl ⟨.ref p,H,I,rfl,q⟩
def tyV (K:W.Frag) (T:String) (x:V) (H:Hp):Prop:=match x with
 | .str _=>T = "str"
 | .int _=>T = "int"
 | .ref p=>(T = "list" ∧ ∃xs,SqL K H p xs)∨(T = "tuple" ∧ ∃o,K.lookup p=some o∧o.cls=.type "tuple" ∧ o.dict=none)∨
   (T = "dict" ∧ ((∃kvs,H p=some (.dK kvs))∨∃kvs,H p=some (.dT kvs)))∨(T = "set" ∧ ∃S n,H p=some (.set S n))
 | _=>False
theorem tyV_is {pins:List (Addr×Obj)} {σ:St} {H:Hp} {s:Shared} {T:String} {x:V} {v:Value} (I:Inv X pins σ H s) (r:RelV x v) (ty:tyV X.K T x H):
  s.TypeIs v T∧∀a,v=.ref a->∃ob,s.heap.get? a=some ob∧ob.dict=none:=by
 cases x with
 | str z=>
  obtain⟨t,rfl⟩:=r
  cases (show T = "str" from ty)
  exact⟨typeIs_str s z t,fun _ e=>nomatch e⟩
 | int i=>
  obtain⟨t,rfl⟩:=r
  cases (show T = "int" from ty)
  exact⟨typeIs_int s i t,fun _ e=>nomatch e⟩
 | ref p=>
  cases r
  rcases ty with ⟨rfl,xs,hq⟩ | ⟨rfl,o,hk,hc,hd⟩ | ⟨rfl,hk⟩ | ⟨rfl,S,n,hk⟩
  ·obtain⟨its,_,pl,_⟩:=I.list hq
   refine⟨pl.isList.typeIs,fun a e=>?_⟩
   cases e
   obtain⟨o,n,e,c,hd,_⟩:=pl
   exact⟨o,e,hd⟩
  ·refine⟨⟨o,I.kIn p o hk,hc⟩,fun a e=>?_⟩
   cases e
   exact⟨o,I.kIn _ o hk,hd⟩
  ·have z:∃o,s.heap.get? p=some o∧o.ExactDict:=by
    rcases hk with ⟨kvs,hk⟩ | ⟨kvs,hk⟩
    ·obtain⟨_,_,_,_,o,_,_,e,ex,_⟩:=I.hok p _ hk
     exact⟨o,e,ex⟩
    ·obtain⟨_,_,_,_,o,_,_,e,ex,_⟩:=I.hok p _ hk
     exact⟨o,e,ex⟩
   obtain⟨o,e,ex⟩:=z
   refine⟨⟨o,e,ex.1⟩,fun a e2=>?_⟩
   cases e2
   exact⟨o,e,ex.2.1⟩
  ·obtain⟨o,_,_,_,e,ex,_⟩:=I.hok p _ hk
   refine⟨⟨o,e,ex.1⟩,fun a e2=>?_⟩
   cases e2
   exact⟨o,e,ex.2.1⟩
 | _=>exact False.elim ty
def tBM0 (K:W.Frag) (T:String) (r:V->List V->Hp->VK->Prop) (to:TE):TE:=fun σ H Q=>to σ H fun x H1=>tyV K T x H1∧r x [] H1 Q
def tBM (K:W.Frag) (T:String) (r:V->List V->Hp->VK->Prop) (to:TE) (t:TA):TE:=fun σ H Q=>to σ H fun x H1=>tyV K T x H1∧t σ H1 fun xs H2=>r x xs H2 Q
variable {o e:Expr} {es:List Expr} {to:TE} {t:TA} {name:Str} {apos cpos:Pos} {T id:String} {r:V->List V->Hp->VK->Prop}
theorem pe_bm0 (pa:PlainAttrs T) (slot:Slot T name id) (hty:typeOf (.builtin id)=pure (.type "method_descriptor")) (hm:MtR X id r) (ho:PE X o to)
  (hbase:attributeBase o name X.env (eval o X.env)=eval o X.env:=by rfl) (hline:(apos.endLine == cpos.line)=true:=by rfl):PE X (.Call (.Attribute o name apos) [] [] cpos) (tBM0 X.K T r to):=by
 intro pins s σ H Q I h
 refine wpAny_Call_method0_late hbase hline (thn (ho pins s σ H _ I h) fun v s1 ⟨x,H1,I1,r1,ty,q1⟩=>?_)
 obtain⟨h1,h2⟩:=tyV_is I1 r1 ty
 exact⟨T,id,pa,slot,hty,h1,h2,Calls.callWith_builtin rfl (PySem.evalArgs_none (hm pins s1 σ H1 x [] v [] Q I1 r1 .nil q1))⟩
theorem pe_bm (pa:PlainAttrs T) (slot:Slot T name id) (hty:typeOf (.builtin id)=pure (.type "method_descriptor")) (hm:MtR X id r) (ho:PE X o to) (ha:PA X (e :: es) t)
  (hbase:attributeBase o name X.env (eval o X.env)=eval o X.env:=by rfl)
  (hfew:((backTo cpos (starEach (e :: es) X.env)).all (fun x=>!x.1) && (backToKw cpos (keywordEach [] X.env)).all (fun x=>x.1.isSome)
   && decide ((e :: es).length+([]:List Keyword).length+(if ([]:List Keyword).isEmpty then 0 else 1) < 30))=true:=by rfl)
  (hline:(apos.endLine == cpos.line)=true:=by rfl) (hs:starEach (e :: es) X.env=(false,eval e X.env) :: starEach es X.env:=by rfl) (hplain:(backTo cpos (starEach es X.env)).any (·.1)=false:=by rfl):
  PE X (.Call (.Attribute o name apos) (e :: es) [] cpos) (tBM X.K T r to t):=by
 intro pins s σ H Q I h
 refine wpAny_Call_method_late hbase hfew hline rfl (thn (ho pins s σ H _ I h) fun v s1 ⟨x,H1,I1,r1,ty,q1⟩=>?_)
 obtain⟨h1,h2⟩:=tyV_is I1 r1 ty
 refine⟨T,id,pa,slot,hty,h1,h2,?_⟩
 have hA:=ha cpos pins s1 σ H1 _ I1 q1
 rw [hs] at hA ⊢
 refine Calls.callWith_builtin (by show (false || (backTo cpos (starEach es X.env)).any (·.1))=false;rw [hplain] <;> rfl) (Calls.evalArgs_plain ?_)
 exact thn hA fun us s2 ⟨vs,H2,I2,r2,q2⟩=>hm pins s2 σ H2 x vs v us Q I2 r1 r2 q2
/- xs.append(e),list.index on a module's tuple .. are MtR facts of 06m -/
end
def MtM (X:Cx) (id:String) (r:V->List V->Hp->VK->Prop):Prop:=
 ∀(pins:List (Addr×Obj)) (s:Shared) (σ:St) (H:Hp) (x:V) (xs:List V) (v:Value) (us:List Value) (Q:VK),Inv X pins σ H s->RelV x v->Vals xs us->r x xs H Q->
  wpAny (model X.prog X.w) X.A (call (.builtin id) (v :: us)) (EP X pins σ Q) X.xe s
theorem Vals.one:∀{x:V} {us:List Value},Vals [x] us->∃u,us=[u]∧RelV x u
 | _,_,.cons r .nil=>⟨_,rfl,r⟩
theorem Vals.dropLast {xs:List V} {us:List Value} (h:Vals xs us):Vals xs.dropLast us.dropLast:=by
 induction h with
 | nil=>exact .nil
 | cons r t ih=>
  cases t with
  | nil=>exact .nil
  | cons q t'=>exact .cons r ih
section
variable {X:Cx} {pins:List (Addr×Obj)} {σ:St} {H:Hp} {s:Shared} {l b:Addr} {xs ys zs:List V}
theorem Inv.lset {its its':List Value} {n:Nat} {f:Array Value->Array Value} {t':Nat} (I:Inv X pins σ H s) (hH:H l=some (.lst xs))
  (e:s.heap.get? l=some { cls:=.type "list",data:=.seq its.toArray n }) (hf:f its.toArray=its'.toArray) (hv:Vals ys its') (hz:ys.length<=sizeLine):
  Inv X pins σ (upd H l (.lst ys)) { s with heap:=s.heap.update l (Obj.mapSeq f),toks:=t' }:=by
 have q:=PySem.IsL.update e f
 rw [hf] at q
 refine I.write (x:=l) (e:=l) (by rw [hH];exact trivial) (.inl rfl) (fun b' u hb hu=>(Heap.get?_update_other s.heap (Obj.mapSeq f) (Ne.symm hb)).trans hu) ⟨_,q⟩ ?_
 exact⟨hz,its',_,hv,q⟩
theorem Inv.lnew {its:List Value} {t':Nat} (I:Inv X pins σ H s) (hv:Vals ys its) (hz:ys.length<=sizeLine):
  Inv X pins σ (upd H s.heap.objs.size (.lst ys)) { s with heap:=s.heap.push { cls:=.type "list",data:=.seq its.toArray },toks:=t' }:=
 I.laid (fun _ _ q=>Heap.get?_push_of_some _ q) (Nat.le_refl _) ⟨hz,its,0,hv,Heap.get?_push_size _ rfl⟩
theorem Inv.fresh (I:Inv X pins σ H s):H s.heap.objs.size=none:=I.hok.fresh (Nat.le_refl _)
theorem Inv.lstM (I:Inv X pins σ H s) (hH:H l=some (.lst xs)):xs.length<=sizeLine∧∃(its:List Value) (n:Nat),Vals xs its∧xs.length=its.length∧s.heap.get? l=some { cls:=.type "list",data:=.seq its.toArray n }:=by
 obtain⟨z,its,n,r,e⟩:=I.hok l _ hH
 exact⟨z,its,n,r,r.length,e⟩
theorem notLongL {n:Nat} (h:n<=sizeLine):Builtin.List.listTooLong n=false:=by
 unfold Builtin.List.listTooLong
 exact decide_eq_false (by omega)
end
section
variable {X:Cx}
def rAppend:V->List V->Hp->VK->Prop:=fun x vs H Q=>∃l xs y,x=.ref l∧vs=[y]∧H l=some (.lst xs)∧xs.length < sizeLine∧Q .non (upd H l (.lst (xs++[y])))
theorem mt_append:MtM X "list.append" rAppend:=by
 intro pins s σ H x vs v us Q I rx rv h
 obtain⟨l,xs,y,rfl,rfl,hH,hz,q⟩:=h
 cases rx
 obtain⟨u,rfl,ru⟩:=rv.one
 obtain⟨z,its,n,r,hl,e⟩:=I.lstM hH
 refine call_meets F.slot_list_append ⟨_,e,rfl⟩ F.entry_list_append (F.args_list_append_2 _ _) (PySem.list_append l its.toArray n u (by rw [List.size_toArray];omega)) ⟨e,?_⟩
 refine⟨.non,_,I.lset (its':=its++[u]) hH e (by simp) (r.append (.cons ru .nil)) ?_,rfl,q⟩
 rw [List.length_append,List.length_singleton]
 omega
def rExtend:V->List V->Hp->VK->Prop:=fun x vs H Q=>∃l b xs zs,x=.ref l∧vs=[.ref b]∧H l=some (.lst xs)∧H b=some (.lst zs)∧xs.length+zs.length<=sizeLine∧Q .non (upd H l (.lst (xs++zs)))
theorem mt_extend:MtM X "list.extend" rExtend:=by
 intro pins s σ H x vs v us Q I rx rv h
 obtain⟨l,b,xs,zs,rfl,rfl,hH,hB,hz,q⟩:=h
 cases rx
 obtain⟨u,rfl,ru⟩:=rv.one
 cases ru
 obtain⟨z,its,n,r,hl,e⟩:=I.lstM hH
 obtain⟨z2,its2,n2,r2,hl2,e2⟩:=I.lstM hB
 have hsz:its.toArray.size+its2.toArray.size<=sizeLine:=by rw [List.size_toArray,List.size_toArray];omega
 have hlong:¬(!its.toArray.isEmpty && Builtin.List.listTooLong (its.toArray.size+its2.toArray.size))=true:=by
  rw [notLongL hsz,Bool.and_false]
  exact Bool.false_ne_true
 refine call_meets F.slot_list_extend ⟨_,e,rfl⟩ F.entry_list_extend (F.args_list_extend_2 _ _)
  (AutoSeq1.list_extend_list_list_0 l its.toArray n b its2.toArray n2 hlong (by rw [List.size_toArray];omega) (by omega)) ⟨e,e2,?_⟩
 refine⟨.non,_,I.lset (its':=its++its2) hH e (by simp) (r.append r2) ?_,rfl,q⟩
 rw [List.length_append]
 omega
def rPop:V->List V->Hp->VK->Prop:=fun x vs H Q=>∃l xs y,x=.ref l∧vs=[]∧H l=some (.lst xs)∧xs[xs.length - 1]?=some y∧Q y (upd H l (.lst xs.dropLast))
def rPopAt:V->List V->Hp->VK->Prop:=fun x vs H Q=>∃l xs i k y,x=.ref l∧vs=[.int i]∧H l=some (.lst xs)∧-(2 ^ 63)<=i∧i < 2 ^ 63∧seqIndex? i xs.length=some k∧xs[k]?=some y∧Q y (upd H l (.lst (xs.eraseIdx k)))
def rClear:V->List V->Hp->VK->Prop:=fun x vs H Q=>∃l xs,x=.ref l∧vs=[]∧H l=some (.lst xs)∧Q .non (upd H l (.lst []))
def rCat:R2:=fun x y H Q=>∃l b xs zs,x=.ref l∧y=.ref b∧H l=some (.lst xs)∧H b=some (.lst zs)∧xs.length+zs.length<=sizeLine∧∀p,H p=none->Q (.ref p) (upd H p (.lst (xs++zs)))
theorem op_cat:OpR X (binaryOp .Add) rCat:=by
 intro pins s σ H x y v u Q I rx ry h
 obtain⟨l,b,xs,zs,rfl,rfl,hH,hB,hz,q⟩:=h
 cases rx
 cases ry
 obtain⟨z,its,n,r,hl,e⟩:=I.lstM hH
 obtain⟨z2,its2,n2,r2,hl2,e2⟩:=I.lstM hB
 refine PySem.P.add_list e e2 ?_ (by rw [List.size_toArray,List.size_toArray];omega)
 have ea:its.toArray++its2.toArray=(its++its2).toArray:=by simp
 rw [ea]
 exact⟨.ref _,_,I.lnew (t':=s.toks) (r.append r2) (by rw [List.length_append];omega),rfl,q _ I.fresh⟩
def rRep:R2:=fun x y H Q=>∃l k xs,x=.ref l∧y=.int k∧H l=some (.lst xs)∧-(2 ^ 63)<=k∧k < 2 ^ 63∧xs.length * k.toNat<=sizeLine∧
 ∀p,H p=none->Q (.ref p) (upd H p (.lst (List.replicate k.toNat xs).flatten))
end
section
variable {prog:Program} {w:World} {A:Around} {E:Value->Shared->Prop} {s:Shared}
end
section
variable {X:Cx}
end
end L2
namespace Att
open PySem PySem.W PySem.Calls PyProof.Rows
theorem ints_of_wellAll {P:Params} {h:Heap}:∀(ns:List Int) (vs:List Value),WellAll P h vs (ns.map WData.int)->IntsAre vs ns:=by
 intro ns
 induction ns with
 | nil=>
  intro vs w
  rw [List.map_nil] at w
  cases w
  exact .nil
 | cons n ns ih=>
  intro vs w
  rw [List.map_cons] at w
  cases w with
  | cons a b=>
   cases a
   exact .cons _ _ (ih _ b)
theorem script_of {l:OpenLaw} {n:Nat} (hn:l.most=some n) {P:Params} {h:Heap} {args:List WData} {vals:List Value}
  (hpre:l.row.toRowW.claim.pre args=true) (hwl:WellAll P h vals args):
  ∃a vs ns,vals=[Value.ref a]∧args=[WData.list (ns.map WData.int)]∧h.get? a=some { cls:=.type "list",data:=.seq vs.toArray }∧IntsAre vs ns∧ns.length<=n:=by
 have hsh:WShape.hasAll [] args [.list .int]=true:=(pre_splitW hpre).1
 have hc:l.pre.holds [] { args:=args }=true:=(pre_splitW hpre).2
 obtain⟨d,r,rfl,h1,h2⟩:=hasAllW_cons hsh
 obtain rfl:=hasAllW_nil h2
 obtain⟨xs,rfl,h3⟩:=hasW_list h1
 obtain⟨ns,rfl⟩:=items_int h3
 have hlen:ns.length<=n:=by
  unfold OpenLaw.pre at hc
  have h4:(WTm.not (.lt (.lit (.int (n:Int))) (.len (.arg 0)))).holds [] { args:=[.list (ns.map .int)] }=true:=by
   have h4:=(holds_andW hc).1
   rw [hn] at h4
   exact h4
  have h5:=condW_of h4 (w_not (w_lt w_lit (w_len_list (w_arg rfl))))
  rw [List.length_map] at h5
  refine Nat.le_of_not_lt fun q=>?_
  have q':(n:Int) < ((ns.length:Nat):Int):=by omega
  first
   |(rw [decide_eq_true q'] at h5;exact absurd h5 (by decide))
   |(simp at h5;omega)
 cases hwl with
 | cons w1 w2=>
  cases w2
  cases w1 with
  | list ho hall=>exact⟨_,_,ns,rfl,rfl,ho,ints_of_wellAll ns _ hall,hlen⟩
theorem post_true (l:OpenLaw) (args:List WData):l.row.toRowW.claim.post args (.bool true) args=true:=
 postW_of (r:=l.row.toRowW) (X:=(true == true))
  (show WShape.has [] (.bool true) .bool=true by first | rfl | decide | simp [WShape.has,WShape.arms,WShape.armsAll])
  (show (WTm.eq .res (.lit (.bool true))).value [] { args:=args,res:=some (.bool true),after:=args }=some (.bool (true == true)) from w_eq_bool (w_res rfl) w_lit) rfl
theorem attach_call {l:OpenLaw} {n:Nat} {q:Program} {loose:List Str} {XP:(Str->Option Value)->Heap->Prop} {YP:World->Heap->Prop} {d:DefRec}
  (hn:l.most=some n) (hdf:d.params.defaults=[])
  (call:∀(w:World) (s₀ s₁:Shared) (mg mb:Str->Option Value) (fa:Addr) (o:Obj) (pm cd doc:Value) (a:Addr) (vs:List Value) (ns:List Int),
   Ground q loose [] XP w s₀ mg mb s₁.heap->YP w s₁.heap->
   s₁.heap.get? fa=some o->o.data=.func (docDef d.name d.params d.body d.scope pm cd doc)->s₁.heap.CodeRec cd d.name->mg d.name=some (.ref fa)->
   s₁.heap.get? a=some { cls:=.type "list",data:=.seq vs.toArray }->IntsAre vs ns->ns.length<=n->s₁.gens=#[]->
   codeAny (model l.prog w) callerA (.call (.ref fa) ⟨[.ref a],[]⟩) (fun r s'=>r=.ok (.ret (.bool true))∧OldK s₁.heap s'.heap∧s'.os=s₁.os∧AllBare s'.gens) s₁):
  WalkO q loose XP YP l.row.toRowW d [] (fun f vs=>PySem.call f vs):=by
 intro w s₀ s₁ mg mb G Y fa o pm cd doc dV kV ho hd hcd hD hmg hg args vals as hpre hlay hrd hwl hlo
 obtain rfl:dV=.none:=Dflts.none hD hdf
 obtain rfl:kV=.none:=Dflts.noKw hD
 obtain⟨a,vs,ns,rfl,rfl,hobj,hints,hlen⟩:=script_of hn hpre hwl
 refine enter_call (codeAny_mono (call w s₀ s₁ mg mb fa o pm cd doc a vs ns G Y ho (fd_plain hd) hcd hmg hobj hints hlen hg) fun r s' hq=>?_)
 obtain⟨rfl,h2,h3,h4⟩:=hq
 exact⟨.inl ⟨.bool true,.bool true,[],rfl,fun _=>rfl,.bool true,post_true l _,fun _=>⟨List.Pairwise.nil,fun _ hm=>(nomatch hm)⟩⟩,h2,h3,h4⟩
section
variable {prog:Program} {w:World} {A:Around} {E:Value->Shared->Prop} {s:Shared} {K:Frag}
def ledger (h:Heap) (L d:Addr):List (Addr×Obj):=(List.range h.objs.size).filterMap fun a=>if a=L∨a=d then none else (h.get? a).map fun o=>(a,o)
end
end Att
namespace L2
open PySem PySem.Spec PyProof.Rows
theorem vals_ints:∀{vs:List Value} {ns:List Int},IntsAre vs ns->Vals (ns.map V.int) vs
 | _,_,.nil=>.nil
 | _,_,.cons n t h=>.cons ⟨t,rfl⟩ (vals_ints h)
def Only (H:Hp):Prop:=∀b,H b=none∨∃o xs,H b=some (.frz o (.lst xs))
theorem law_call {P:Program} {w:World} {K:W.Frag} {mg mb:Str->Option Value} {CX:CXT} {k:Nat} {fa a:Addr} {fd:FuncData} {x:Str} {sp:Sp} {s₁:Shared} {vs:List Value} {ns:List Int}
  (KX:K.In s₁.heap) (hns:s₁.heap.Ns mainGlobals mg) (hb:s₁.heap.Ns builtinsNs mb) (hbb:∀x:Str,x ≠ "__name__" -> mb x=bootBuiltins x) (hlim:s₁.heap.NoLimit) (hg:s₁.gens=#[])
  (ha:s₁.heap.get? a=some { cls:=.type "list",data:=.seq vs.toArray }) (hi:IntsAre vs ns) (hl:ns.length<=sizeLine) (hr:Room k callerA)
  (F:∀base:Heap,K.In base->base.Ns mainGlobals mg->FnOk P w K mg base CX k fa fd [x] sp) (hbind:∀(s:Shared) (u:Value),BindsTo s fd ⟨[u],[]⟩ [(x,u)])
  (hsp:∀H:Hp,Only H->SqL K H a (ns.map V.int)->sp [.ref a] H (fun v _=>v=.bl true) fun _ _ _=>False)
  (hCX:∀H e s',CX [] H s₁ (fun _ _ _=>False) e s'->False):
  codeAny (model P w) callerA (.call (.ref fa) ⟨[.ref a],[]⟩) (fun r s'=>r=.ok (.ret (.bool true))∧OldK s₁.heap s'.heap∧s'.os=s₁.os∧AllBare s'.gens) s₁:=by
 have rv:=vals_ints hi
 have lenV:=hi.length
 have core:∀H:Hp,Only H->SqL K H a (ns.map V.int)->HOk P w H s₁.heap->(∀b,H b≠none->b=a)->(H a≠none->K.lookup a=none)->
   codeAny (model P w) callerA (.call (.ref fa) ⟨[.ref a],[]⟩) (fun r s'=>r=.ok (.ret (.bool true))∧OldK s₁.heap s'.heap∧s'.os=s₁.os∧AllBare s'.gens) s₁:=by
  intro H hO hS hok hA hK
  have base_of:∀{b:Addr} {o:Obj},s₁.heap.get? b=some o->H b=none->(hidT s₁.heap H).get? b=some o:=fun e n=>hidT_get e n
  have noA:∀{b:Addr} {o:Obj} {es:Array DictEntry} {ep:Nat},s₁.heap.get? b=some o->o.data=.dict es ep->H b=none:=fun {b o es ep} e d=>by
   cases q:H b with
   | none=>rfl
   | some u=>
    have e':b=a:=hA b (by rw [q];simp)
    subst e'
    rw [ha] at e;cases e
    have d':Data.seq vs.toArray _=Data.dict es ep:=d
    cases d'
  have nsK:∀{b:Addr} {m:Str->Option Value},s₁.heap.Ns b m->(hidT s₁.heap H).Ns b m:=fun {b m} ⟨o,es,ep,e,d,r⟩=>⟨o,es,ep,base_of e (noA e d),d,r⟩
  have hKb:K.In (hidT s₁.heap H):=fun b o e=>base_of (KX b o e) (by
   cases q:H b with
   | none=>rfl
   | some u=>
    have e':b=a:=hA b (by rw [q];simp)
    subst e'
    rw [hK (by rw [q];simp)] at e;cases e)
  have hM:Mod K mg (hidT s₁.heap H):=⟨hKb,nsK hns,⟨mb,nsK hb,hbb⟩,let ⟨mc,h1,h2⟩:=hlim;⟨mc,nsK h1,h2⟩⟩
  have e0:Env0 P w K mg (hidT s₁.heap H) callerA [] s₁ H:=⟨rfl,hM,fun b o e=>of_hidT e,Nat.le_of_eq (hidT_size _ _),trivial,fun b hb=>absurd (show b∈([]:List Addr) from hb) (by simp),hok,.of_eq hg⟩
  refine codeAny_mono ((F _ hKb (nsK hns)).run callerA [] s₁ H ⟨[.ref a],[]⟩ [.ref a] [.ref a] _ _ hr e0 (hbind s₁ (.ref a)) (.cons rfl .nil) (hsp H hO hS)) fun r s' h=>?_
  cases r with
  | error e=>exact (hCX H e s' h).elim
  | ok fl=>
   cases fl with
   | next=>exact False.elim h
   | brk=>exact False.elim h
   | cont=>exact False.elim h
   | ret u=>
    obtain⟨v,H',os,bare,un,hok',r',q⟩:=h
    have q':v=.bl true:=q
    subst q'
    obtain rfl:u=Value.bool true:=r'
    refine⟨rfl,OldK.of_keep fun b o e=>?_,os,bare⟩
    cases q:H b with
    | none=>exact un.keep b o e q (by intro z;exact absurd (show b∈([]:List Addr) from z) (by simp)) (by simp)
    | some u=>
     rcases hO b with z | ⟨ob,xs,z⟩
     ·rw [q] at z;cases z
     ·have z2:=un.frzs b ob _ z
      obtain⟨e1,_⟩:=hok b _ z
      obtain⟨e2,_⟩:=hok' b _ z2
      rw [e] at e1;cases e1
      exact e2
 cases hk:K.lookup a with
 | some o=>
  have e:=KX a o hk
  rw [ha] at e
  cases e
  refine core (fun _=>none) (fun _=>.inl rfl) (.inr ⟨_,vs.toArray,_,hk,rfl,rfl,rfl,by rw [List.size_toArray,lenV];exact hl,by simpa using rv⟩) (fun b u z=>by have z':(none:Option HO)=some u:=z;cases z') (fun b z=>absurd rfl z) fun z=>absurd rfl z
 | none=>
  refine core (fun b=>if b=a then some (.frz { cls:=.type "list",data:=.seq vs.toArray } (.lst (ns.map V.int))) else none) (fun b=>?_) (.inl (.inr ⟨{ cls:=.type "list",data:=.seq vs.toArray },if_pos rfl⟩)) (fun b u z=>?_) (fun b z=>?_) fun _=>hk
  ·by_cases hb:b=a
   ·exact .inr ⟨_,_,if_pos hb⟩
   ·exact .inl (if_neg hb)
  ·by_cases hb:b=a
   ·have z':=(if_pos hb).symm.trans z
    cases z'
    subst hb
    exact⟨ha,by rw [List.length_map];exact hl,vs,_,rv,ha⟩
   ·have z':=(if_neg hb).symm.trans z
    cases z'
  ·by_cases hb:b=a
   ·exact hb
   ·exact absurd (if_neg hb) z
theorem walk_of {l:PySem.W.OpenLaw} {n k:Nat} {q:Program} {loose:List Str} {XP:(Str->Option Value)->Heap->Prop} {YP:World->Heap->Prop} {d:DefRec} {K:Params->W.Frag} {CX:World->CXT} {sp:World->Sp} {x:Str}
  (hn:l.most=some n) (hn2:n<=sizeLine) (hdf:d.params.defaults=[]) (hr:Room k callerA)
  (hY:∀(w:World) (h:Heap),YP w h->(K w.params).In h)
  (F:∀(w:World) (mg:Str->Option Value) (fa:Addr) (h:Heap),(K w.params).In h->h.Ns mainGlobals mg->mg d.name=some (.ref fa)->
   ∃fd:FuncData,(∀(s:Shared) (u:Value),BindsTo s fd ⟨[u],[]⟩ [(x,u)])∧
    ∀base:Heap,(K w.params).In base->base.Ns mainGlobals mg->FnOk l.prog w (K w.params) mg base (CX w) k fa fd [x] (sp w))
  (hsp:∀(w:World) (H:Hp) (a:Addr) (ns:List Int),ns.length<=n->Only H->SqL (K w.params) H a (ns.map V.int)->sp w [.ref a] H (fun v _=>v=.bl true) fun _ _ _=>False)
  (hCX:∀(w:World) (H:Hp) (s:Shared) (e:Value) (s':Shared),CX w [] H s (fun _ _ _=>False) e s'->False):
  PySem.W.WalkO q loose XP YP l.row.toRowW d [] (fun f vs=>PySem.call f vs):=by
 refine Att.attach_call hn hdf fun w s₀ s₁ mg mb fa o pm cd doc a vs ns G Y ho hd hcd hmg hobj hints hlen hg=>?_
 have KX:=hY w _ Y
 obtain⟨fd,hb,hF⟩:=F w mg fa _ KX G.T.g hmg
 exact law_call KX G.T.g G.T.b G.T.builtins G.T.nolimit hg hobj hints (Nat.le_trans hlen hn2) hr hF hb (fun H hO hS=>hsp w H a ns hlen hO hS) fun H e s'=>hCX w H s₁ e s'
def defArgs (s:Stmt):Arguments:=match s with
 | .FunctionDef _ a _ _ _ _ _ _ _ _=>a
 | _=>{ posonlyargs:=[],args:=[],vararg:=none,kwonlyargs:=[],kw_defaults:=[],kwarg:=none,defaults:=[] }
def defBody (s:Stmt):List Stmt:=match s with
 | .FunctionDef _ _ b _ _ _ _ _ _ _=>b
 | _=>[]
def defScope (s:Stmt):Scope:=match s with
 | .FunctionDef _ _ _ _ _ _ sc _ _ _=>sc
 | _=>{ kind:=.function,names:=[],isGenerator:=false,isCoroutine:=false }
abbrev CX0:CXT:=fun _ _ _ _ _ _=>False
abbrev E0:XK:=fun _ _ _=>False
theorem pass0 {X:Cx}:Passes CX0 X E0:=fun _ _ _ _ _ _ _ h=>h.elim
structure Fun (K:W.Frag) (x qual:Str) (st:Stmt) (f:Addr) (fd:FuncData):Prop where
 ex:∃(oc:Value) (od:Option Addr) (kV doc pm:Value) (an:Option Addr) (cdv ct:Value) (osl:Array (Option Value)),
  fd=PySem.W.fnOf x qual (defArgs st) (defBody st) (defScope st) .none kV doc pm an cdv ct∧K.lookup f=some ⟨oc,od,.func fd,osl⟩∧PySem.W.codeIn K cdv qual=true
 kp:PySem.W.keepIn K (.ref f)=true
section
variable {P:Program} {w:World} {K:W.Frag} {mg:Str->Option Value} {base:Heap}
theorem Fun.ok {x qual:Str} {st:Stmt} {f:Addr} {fd:FuncData} {N ps:List Str} {k:Nat} {sp:Sp} (F:Fun K x qual st f fd) (S:FnScope N ps (defScope st)) (len:∀vs H Q E,sp vs H Q E->vs.length=ps.length)
  (hbody:∀(cdv:Value) (A:Around) (outer:List Env) (s:Shared) (H:Hp) (vs:List V) (Q:VK) (E:XK),Room k (A.deeper (envOfC qual (defScope st) s.heap.objs.size f cdv))->sp vs H Q E->
   ∃t,PSs (cxOf CX0 P w K mg base N qual (defScope st) f cdv A outer s H E).nox (defBody st) t∧t { nx:=fun _ H'=>Q .non H',rt:=Q } (start N vs) H):FnOk P w K mg base CX0 (k+1) f fd ps sp:=by
 obtain⟨oc,od,kV,doc,pm,an,cdv,ct,osl,rfl,lk,hcd⟩:=F.ex
 refine fn_of lk hcd S len fun A outer s H vs Q E hr hsp=>?_
 obtain⟨t,h,q⟩:=hbody cdv A outer s H vs Q E hr hsp
 exact⟨t,h.nox,q⟩
theorem Fun.binds {x qual:Str} {st:Stmt} {f:Addr} {fd:FuncData} {ps:List Str} (F:Fun K x qual st f fd)
  (h:∀(kV doc pm:Value) (an:Option Addr) (cdv ct:Value) (us:List Value),us.length=ps.length->bindArgs (PySem.W.fnOf x qual (defArgs st) (defBody st) (defScope st) .none kV doc pm an cdv ct) ⟨us,[]⟩=pure (ps.zip us)):Binds K fd ps []:=by
 obtain⟨oc,od,kV,doc,pm,an,cdv,ct,osl,rfl,lk,hcd⟩:=F.ex
 exact .all (h kV doc pm an cdv ct)
theorem fun_mk {x qual:Str} {st:Stmt} {f:Addr} {oc:Value} {od an:Option Addr} {osl:Array (Option Value)} {kV doc pm cdv ct:Value} (l:K.lookup f=some ⟨oc,od,.func (PySem.W.fnOf x qual (defArgs st) (defBody st) (defScope st) .none kV doc pm an cdv ct),osl⟩)
  (c:PySem.W.codeIn K cdv qual=true) (k:PySem.W.keepIn K (.ref f)=true):Fun K x qual st f (PySem.W.fnOf x qual (defArgs st) (defBody st) (defScope st) .none kV doc pm an cdv ct):=⟨⟨oc,od,kV,doc,pm,an,cdv,ct,osl,rfl,l,c⟩,k⟩
end
theorem small1000 {n:Nat} (h:n<=1000):n < sizeLine:=Nat.lt_of_le_of_lt h (by decide)
section
variable {X:Cx}
theorem pv (i:Nat) {x:Str} {pos:Pos} (hN:X.N[i]?=some x:=by rfl) (hv:Vis X.env.scope x:=by first | exact Or.inl rfl | exact Or.inr (Or.inl rfl) | exact Or.inr (Or.inr rfl)) (hd:(x == ("__debug__" : Str))=false:=by decide)
  (hcd:(x == ("__classdict__" : Str))=false:=by decide):PE X (.Name x pos) (tVar i):=pe_var hN hv hd hcd
end
theorem ite2 {c A B:Prop} [Decidable c] (h1:c->A) (h2:¬c->B):if c then A else B:=by
 by_cases h:c
 ·rw [if_pos h]
  exact h1 h
 ·rw [if_neg h]
  exact h2 h
def Same (H H':Hp):Prop:=∀b o,H b=some o->H' b=some o
theorem Same.refl (H:Hp):Same H H:=fun _ _ h=>h
theorem Same.trans {H H1 H2:Hp} (a:Same H H1) (b:Same H1 H2):Same H H2:=fun c o h=>b c o (a c o h)
theorem Same.free {H H':Hp} (e:Same H H') {l:Addr} (h:H' l=Option.none):H l=Option.none:=by
 cases q:H l with
 | none=>rfl
 | some o=>
  rw [e l o q] at h
  cases h
theorem Same.seq {K:W.Frag} {H H':Hp} {a:Addr} {xs:List V} (e:Same H H') (h:SqL K H a xs):SqL K H' a xs:=by
 rcases h with (h | ⟨o,h⟩) | h
 ·exact .inl (.inl (e _ _ h))
 ·exact .inl (.inr ⟨o,e _ _ h⟩)
 ·exact .inr h
@[reducible] def blk (X:Cx) (x:Str) (fv:List (Nat×Str)) (scope:Scope) (cl:List (Str×Addr)) (C:Addr) (s:Shared) (H:Hp) (fp:List Addr):Cx where
 prog:=X.prog
 w:=X.w
 K:=X.K
 mg:=X.mg
 base:=X.base
 A:=X.A
 N:=x :: fv.map (·.2)
 s₀:=s
 H₀:=H
 env:=compEnvC scope cl C X.env
 outer:=X.stack
 stack:=X.stack
 ex:=fp
 fn:=fun _=>false
 calm:=X.calm
 pn:=[]
 xe:=fun _ _=>False
def bst (fv:List (Nat×Str)) (σ:St) (v:Option V):St:=v :: fv.map fun p=>(σ[p.1]?).getD none
structure BlkOk (X:Cx) (x:Str) (fv:List (Nat×Str)) (scope:Scope) (cl:List (Str×Addr)):Prop where
 clos:closureFor scope X.env=pure cl
 nocell:∀y∈scope.names,y.2≠.cell
 kind:scope.kind=.function
 names:∀y∈scope.names,y.2=.local->scope.names.lookup y.1=some .local
 here:scope.names.lookup x=some .local
 sub:∀y c,cl.lookup y=some c->X.env.cells.lookup y=some c
 has:∀y,((relabel scope X.env).names.lookup y=some .cell∨(relabel scope X.env).names.lookup y=some .free)->∃c,cl.lookup y=some c
 fvs:∀p∈fv,p.2≠x∧X.N[p.1]?=some p.2∧(X.env.scope.names.lookup p.2=some .cell∨X.env.scope.names.lookup p.2=some .free)∧
  ((relabel scope X.env).names.lookup p.2=some .cell∨(relabel scope X.env).names.lookup p.2=some .free)∧∃c,cl.lookup p.2=some c
theorem compLoop_one {prog:Program} {w:World} {A:Around} {R:Result->Shared->Prop} {s:Shared} {elt target iter:Expr} {scope:Scope} {pos:Pos} {it acc:Value} {env:Env} (I:Nat->Shared->Prop)
  (turn:∀n s (E:Value->Shared->Prop),I n s->wpAny (model prog w) A (pyNext it) (fun r s₁=>match r with
   | none=>R (.ok .next) s₁
   | some v=>wpAny (model prog w) A (letOwnedTupleGo target it v) (fun _ s₂=>wpAny (model prog w) A (assign target env v) (fun _ s₃=>wpAny (model prog w) A (eval elt env) (fun x s₄=>
     wpAny (model prog w) A (call (.builtin "list.append") [acc,x]) (fun _ s₅=>∃m,m < n∧I m s₅) E s₄) E s₃) E s₂) E s₁) E s)
  (n:Nat) (h:I n s):
  codeAny (model prog w) A (.compLoop (.ListComp elt [⟨target,iter,[],0⟩] scope pos) 0 it acc env) R s:=by
 refine codeAny_loop rfl I (fun n s hI=>?_) n h
 show wpAny _ _ ((compTurn (.ListComp elt [⟨target,iter,[],0⟩] scope pos) 0 it acc env).onRaise (fun x=>do noteFrame x env;theTreesLotGoes x)) _ _ s
 refine wpAny_noted ?_
 rw [PySem.compTurn_list1]
 refine wpAny_bind (wpAny_standAt (wpAny_bind (wpAny_mono (turn n s _ hI) (fun r s₁ h₁=>?_) fun _ _ h'=>h')))
 cases r with
 | none=>exact wpAny_pure h₁
 | some v=>
  exact wpAny_bind (thn h₁ fun _ s₂ h₂=>wpAny_bind (thn h₂ fun _ s₃ h₃=>wpAny_bind (wpAny_bind (thn h₃ fun x s₄ h₄=>wpAny_bind (thn h₄ fun _ s₅ h₅=>wpAny_pure (wpAny_pure ⟨rfl,h₅⟩))))))
section
variable {X:Cx} {elt iter:Expr} {x:Str} {px:Pos} {fv:List (Nat×Str)} {scope:Scope} {cl:List (Str×Addr)} {pos:Pos} {te:TE} {wi:TI}
def tComp (fv:List (Nat×Str)) (wi:TI) (te:TE):TE:=fun σ H Q=>wi σ H fun J H1=>∀D,H1 D=none->∃W:Nat->Nat->Hp->Prop,(∃m,W 0 m (upd H1 D (.lst [])))∧∀i m H,W i m H->
 (J.stop i H∧Q (.ref D) H)∨(J.go i H∧∃N:Hp->Prop,(∀H',N H'->∃m',m' < m∧W (i+1) m' H')∧∀v H',J.yld i H v H'->te (bst fv σ (some v)) H' fun y H2=>∃ys,H2 D=some (.lst ys)∧ys.length < sizeLine∧N (upd H2 D (.lst (ys++[y]))))
theorem blk_ok {pins:List (Addr×Obj)} {σ:St} {H:Hp} {s:Shared} {fp:List Addr} {C:Addr} (B:BlkOk X x fv scope cl) (I:Inv X pins σ H s) (hf:∀b∈fp,FpOk X pins H b) (hC:s.heap.objs.size<=C) (hfC:∀b∈fp,b≠C):
  (blk X x fv scope cl C s H fp).Ok where
 mod:=I.ok.mod
 kind:=B.kind
 glob:=I.ok.glob
 blt:=I.ok.blt
 above:=hC
 inj:=fun y z c h1 h2=>I.ok.inj y z c (B.sub y c h1) (B.sub z c h2)
 has:=fun y hy=>B.has y hy
 cab:=fun y c h=>nomatch h
 hd:=I.ok.hd
 frames:=I.ok.frames
 stk:=.inl rfl
 exf:=fun b hb=>⟨hfC b hb,fun y c e=>(hf b hb).2.2.2.2.1 y c (B.sub y c e)⟩
 bs:=I.bs
 bsz:=Nat.le_trans I.ok.bsz I.sz
 noex:=fun b o e hb=>by
  obtain⟨_,_,_,f3,_⟩:=hf b hb
  rcases f3 with z | z
  ·exact I.ok.noex b o e z
  ·exact absurd (Nat.lt_of_lt_of_le (Heap.lt_size e) (Nat.le_trans I.ok.bsz z)) (Nat.lt_irrefl _)
 exfs:=fun b hb hs=>by
  obtain⟨_,f1,f2,_⟩:=hf b hb
  rcases List.mem_cons.mp (I.stkSub b hs) with z | z
  ·exact f1 z
  ·exact f2 z
 funs:=I.stack
 frf:=I.stkFree
theorem bst_get {fv:List (Nat×Str)} {σ:St} {o:Option V} {j:Nat} {y:Str} {v:V} (h1:(x :: fv.map (·.2))[j+1]?=some y) (h2:(bst fv σ o)[j+1]?=some (some v)):∃p∈fv,p.2=y∧σ[p.1]?=some (some v):=by
 have e1:(fv.map (·.2))[j]?=some y:=by simpa using h1
 have e2:(fv.map fun p=>(σ[p.1]?).getD none)[j]?=some (some v):=by simpa [bst] using h2
 rw [List.getElem?_map] at e1 e2
 cases q:fv[j]? with
 | none=>rw [q] at e1;cases e1
 | some p=>
  rw [q] at e1 e2
  refine⟨p,List.mem_of_getElem? q,Option.some.inj e1,?_⟩
  have e3:(σ[p.1]?).getD none=some v:=Option.some.inj e2
  cases r:σ[p.1]? with
  | none=>rw [r] at e3;cases e3
  | some w=>rw [r] at e3;exact congrArg some e3
theorem blk_start {pins:List (Addr×Obj)} {σ:St} {H:Hp} {s s4:Shared} {fp:List Addr} {C:Addr} {m:Str->Option Value} (B:BlkOk X x fv scope cl) (I:Inv X pins σ H s) (hf:∀b∈fp,FpOk X pins H b) (hC:C=s.heap.objs.size)
  (hfC:∀b∈fp,b≠C) (os:s4.os=s.os) (gens:s4.gens=s.gens) (keep:∀b o,s.heap.get? b=some o->s4.heap.get? b=some o) (ns:s4.heap.Ns C m):
  Inv (blk X x fv scope cl C s H fp) [] (bst fv σ none) H s4:=by
 subst hC
 refine⟨blk_ok B I hf (Nat.le_refl _) hfC,os,by rw [gens];exact I.bare,Un.kept keep,⟨m,ns,fun i y v h1 h2 h3=>?_⟩,fun y c e=>?_,I.hok.fresh (Nat.le_refl _),fun y c e=>I.freeC y c (B.sub y c e),fun p hp=>absurd (show p∈([]:List (Addr×Obj)) from hp) (by simp),I.hok.kept keep,by simp [bst]⟩
 ·cases i with
  | zero=>simp [bst] at h2
  | succ j=>
   obtain⟨p,hp,rfl,hv⟩:=bst_get h1 h2
   obtain⟨_,hN,hk,hk2,c,hc⟩:=B.fvs p hp
   obtain⟨m0,_,hl⟩:=I.loc
   have vis:Vis X.env.scope p.2:=hk.elim (fun z=>.inr (.inl z)) fun z=>.inr (.inr z)
   obtain⟨u,r,l⟩:=hl p.1 p.2 v hN hv vis
   refine⟨u,r,.inr ⟨hk2,c,hc,?_⟩⟩
   rcases l with ⟨z,_⟩ | ⟨_,c',hc',o,ho,hd⟩
   ·have z':X.env.scope.names.lookup p.2=some .local:=z
    rcases hk with k | k <;> (rw [k] at z';cases z')
   ·have:=B.sub p.2 c hc
    rw [hc'] at this;cases this
    exact⟨o,keep _ o ho,hd⟩
 ·obtain⟨v,o,ho,hd⟩:=I.cell y c (B.sub y c e)
  exact⟨v,o,keep c o ho,hd⟩
theorem blk_store {pins':List (Addr×Obj)} {σ:St} {H H0:Hp} {s s5:Shared} {fp:List Addr} {C:Addr} {o:Option V} {v:V} {u:Value} {E:Value->Shared->Prop} {Q:Unit->Shared->Prop} (B:BlkOk X x fv scope cl)
  (I:Inv (blk X x fv scope cl C s H0 fp) pins' (bst fv σ o) H s5) (r:RelV v u) (h:∀s6,Inv (blk X x fv scope cl C s H0 fp) pins' (bst fv σ (some v)) H s6->Q () s6):
  wpAny (model X.prog X.w) X.A (assign (.Name x px) (compEnvC scope cl C X.env) u) Q E s5:=by
 obtain⟨m,hn,hl⟩:=id I.loc
 have hk:(relabel scope X.env).names.lookup x=some .local:=lookup_relabel_local B.here
 have hcls:((compEnvC scope cl C X.env).scope.kind == .class || ((compEnvC scope cl C X.env).scope.kind == .module && (compEnvC scope cl C X.env).locals != (compEnvC scope cl C X.env).globals))=false:=by
  have:(compEnvC scope cl C X.env).scope.kind=.function:=B.kind
  rw [this];rfl
 refine wpAny_assign_Name (wpAny_storeName_local hk hn (fun h' hn' hs=>?_) hcls)
 have cne:=I.cne
 obtain⟨oL,_,_,hoL,_⟩:=id hn
 have tracked:HOk X.prog X.w H h':=fun b ob e=>by
  refine (I.hok b ob e).stay (fun c w' hc q=>(hs.2 c ?_).trans q) (fun _ q=>q) fun _ _ q=>q
  intro z
  have z':c=C:=z
  have fr:H C=none:=I.free
  rcases hc with hc | hc
  ·rw [← hc,z',fr] at e;cases e
  ·rw [z',fr] at hc;cases hc
 refine h _ ⟨I.ok,I.os,I.bare,⟨fun b o e n hb hx=>?_,fun b o e n hb hx=>?_,I.base.free,fun b o e hx=>?_,I.base.tups,I.base.frzs,I.base.tbls⟩,⟨_,hn',fun j y v' e1 e2 e3=>?_⟩,fun y c e=>?_,I.free,I.freeC,fun p hp=>?_,tracked,by simp [bst]⟩
 ·exact (hs.2 b (Nat.ne_of_lt (Nat.lt_of_lt_of_le (Heap.lt_size e) I.ok.above))).trans (I.base.keep b o e n hb hx)
 ·obtain⟨sl,e1⟩:=I.base.slot b o e n hb hx
  exact⟨sl,(hs.2 b (Nat.ne_of_lt (Nat.lt_of_lt_of_le (Heap.lt_size e) I.ok.above))).trans e1⟩
 ·obtain⟨o',e1⟩:=I.base.there b o e hx
  exact⟨o',(hs.2 b (Nat.ne_of_lt (Nat.lt_of_lt_of_le (Heap.lt_size e) I.ok.above))).trans e1⟩
 ·cases j with
  | zero=>
   have e1':x=y:=by simpa using e1
   subst e1'
   have e2':v=v':=by simpa [bst] using e2
   subst e2'
   exact⟨u,r,.inl ⟨hk,by simp⟩⟩
  | succ j=>
   have e2':(bst fv σ o)[j+1]?=some (some v'):=by simpa [bst] using e2
   obtain⟨u',r',q⟩:=hl (j+1) y v' e1 e2' e3
   refine⟨u',r',?_⟩
   obtain⟨p,hp,rfl,_⟩:=bst_get e1 e2
   rcases q with ⟨k,e⟩ | ⟨k,c,e,z⟩
   ·exact .inl ⟨k,by simp [(B.fvs p hp).1,e]⟩
   ·exact .inr ⟨k,c,e,z.sameBut hs (cne _ c e)⟩
 ·obtain⟨w',z⟩:=I.cell y c e
  exact⟨w',z.sameBut hs (cne y c e)⟩
 ·obtain⟨e,n,ne,nf,d⟩:=I.pin p hp
  exact⟨(hs.2 p.1 ne).trans e,n,ne,nf,d⟩
theorem blk_back {X:Cx} {pins:List (Addr×Obj)} {σ:St} {H H5:Hp} {s2 s3 s6:Shared} {fp:List Addr} (I:Inv X pins σ H s2) (hk:HOk X.prog X.w H5 s6.heap) (bare:AllBare s6.gens) (hD:H s2.heap.objs.size=none) (up3:∀b o,s2.heap.get? b=some o->s3.heap.get? b=some o) (ub:Un (frs X.stack) fp (upd H s2.heap.objs.size (.lst [])) H5 s3.heap s6.heap) (os:s6.os=s2.os) (hf:∀b∈fp,FpOk X pins H b):Inv X pins σ H5 s6:=by
 refine I.call' ?_ ((Un.laid up3 (Nat.le_refl _) hD).trans ub) hk bare fun b hb=>?_
 ·exact os
 ·obtain⟨_,f1,f2,f3,f4,f5⟩:=hf b hb
  exact⟨f3,f1,f4,f5⟩
theorem blk_tail {Y:Cx} {prog:Program} {w:World} {K:W.Frag} {tg:Expr} {J:It} {fp:List Addr} {it:Addr} {tn:Nat->Heap->Prop} (T:Turn prog w K tg J fp it tn) {σ':St} {H9:Hp} {s7 s9:Shared} {D:Addr} {ys:List V} {yv:V} {y:Value} {i n:Nat} {N:Hp->Prop} {W:Nat->Nat->Hp->Prop} {E':Value->Shared->Prop} (hx:∀u s,¬Y.xe u s) (st7:tn (i+1) s7.heap) (I9:Inv Y ([]++pinsAt fp s7.heap) σ' H9 s9) (r9:RelV yv y) (hD9:H9 D=some (.lst ys)) (hz:ys.length < sizeLine) (n9:N (upd H9 D (.lst (ys++[yv])))) (hN:∀H',N H'->∃m',m' < n∧W (i+1) m' H'):
  wpAny (model Y.prog Y.w) Y.A (call (.builtin "list.append") [.ref D,y]) (fun _ s₅=>∃m,m < n∧∃H',Inv Y [] σ' H' s₅∧tn (i+1) s₅.heap∧(∀b∈fp,H' b=none)∧W (i+1) m H') E' s9:=by
 have a9:=mt_append (X:=Y) _ s9 _ H9 (.ref D) [yv] (.ref D) [y] (fun _ H10=>H10=upd H9 D (.lst (ys++[yv]))) I9 rfl (.cons r9 .nil)
  ⟨_,ys,yv,rfl,rfl,hD9,hz,rfl⟩
 refine wpAny_mono a9 (fun _ s10 zz=>?_) fun _ _ z=>(hx _ _ z).elim
 obtain⟨_,H10,I10,_,e10⟩:=zz
 subst e10
 obtain⟨m',hm,w9⟩:=hN _ n9
 refine⟨m',hm,_,I10.unpinned,T.keep _ _ _ st7 fun b hb o e=>(I10.pin (b,o) (List.mem_append_right _ (List.mem_append_right _ (mem_pinsAt hb e)))).1,fun b hb=>?_,w9⟩
 obtain⟨o,e,_⟩:=T.obj _ _ st7 b hb
 exact (I10.pin (b,o) (List.mem_append_right _ (List.mem_append_right _ (mem_pinsAt hb e)))).2.1
theorem blk_run {pins:List (Addr×Obj)} {σ:St} {H:Hp} {s2:Shared} {it:Addr} {fp:List Addr} {tn:Nat->Heap->Prop} {J:It} {Q:VK} {E:Value->Shared->Prop} {RR:Value->Addr->Result->Shared->Prop}
  (hc:X.calm=true) (B:BlkOk X x fv scope cl) (he:∀C s H fp,PE (blk X x fv scope cl C s H fp) elt te) (I:Inv X pins σ H s2) (T:Turn X.prog X.w X.K (.Name x px) J fp it tn) (st:tn 0 s2.heap) (hf:∀b∈fp,FpOk X pins H b)
  (rd:∀D,H D=none->∃W:Nat->Nat->Hp->Prop,(∃m,W 0 m (upd H D (.lst [])))∧∀i m H,W i m H->
   (J.stop i H∧Q (.ref D) H)∨(J.go i H∧∃N:Hp->Prop,(∀H',N H'->∃m',m' < m∧W (i+1) m' H')∧∀v H',J.yld i H v H'->te (bst fv σ (some v)) H' fun y H2=>∃ys,H2 D=some (.lst ys)∧ys.length < sizeLine∧N (upd H2 D (.lst (ys++[y])))))
  (hRR:∀D C s' H' m',Inv X pins σ H' s'->FpOk X pins H' C->s'.heap.Ns C m'->Q (.ref D) H'->RR (.ref D) C (.ok .next) s'):
  wpAny (model X.prog X.w) X.A (newList []) (fun acc s₃=>wpAny (model X.prog X.w) X.A (newFunctionEnv scope X.env.globals cl [] X.env.qual none .none (some X.env)) (fun cenv s₄=>
   codeAny (model X.prog X.w) X.A (.compStart (.ListComp elt [⟨.Name x px,iter,[],0⟩] scope pos) 0 (.ref it) acc { cenv with scope:=relabel scope X.env }) (RR acc cenv.locals) s₄) E s₃) E s2:=by
 refine wpAny_newObj_type ?_ (by show 0<=sizeLine;exact Nat.zero_le _)
 have hD:H s2.heap.objs.size=none:=I.hok.fresh (Nat.le_refl _)
 have I3:=I.lnew (ys:=[]) (its:=[]) (t':=s2.toks) .nil (Nat.zero_le _)
 generalize hs3:({ s2 with heap:=s2.heap.push { cls:=.type "list",data:=.seq ([]:List Value).toArray },toks:=s2.toks }:Shared)=s3 at I3
 have sz3:s3.heap.objs.size=s2.heap.objs.size+1:=by rw [← hs3];exact Heap.size_push ..
 have up3:∀b o,s2.heap.get? b=some o->s3.heap.get? b=some o:=fun b o e=>by rw [← hs3];exact Heap.get?_push_of_some _ e
 have hf3:∀b∈fp,FpOk X pins (upd H s2.heap.objs.size (.lst [])) b:=fun b hb=>by
  obtain⟨f0,r⟩:=hf b hb
  refine⟨?_,r⟩
  obtain⟨o,e,_⟩:=T.obj 0 _ st b hb
  rw [upd_ne (Nat.ne_of_lt (Heap.lt_size e))];exact f0
 have ltf:∀b∈fp,b < s2.heap.objs.size:=fun b hb=>by
  obtain⟨o,e,_⟩:=T.obj 0 _ st b hb
  exact Heap.lt_size e
 have st3:tn 0 s3.heap:=T.keep 0 _ _ st fun b _ o e=>up3 b o e
 obtain⟨W,⟨m0,w0⟩,turn⟩:=rd _ hD
 refine wpAny_newFunctionEnv B.nocell (by intro y hy;simp at hy) (fun h₁ hns₁ hsb₁=>?_) B.kind
 have hfC:∀b∈fp,b≠s3.heap.objs.size:=fun b hb=>Nat.ne_of_lt (by rw [sz3];exact Nat.lt_succ_of_lt (ltf b hb))
 have up4:∀b o,s3.heap.get? b=some o->h₁.get? b=some o:=fun b o e=>hsb₁.extBut b o (Nat.ne_of_lt (Heap.lt_size e)) (Heap.get?_push_of_some _ e)
 generalize hs4:({ s3 with heap:=h₁,toks:=s3.toks+([]:List (Str×Value)).length }:Shared)=s4
 have h4:s4.heap=h₁:=by rw [← hs4]
 have I4:Inv (blk X x fv scope cl s3.heap.objs.size s3 (upd H s2.heap.objs.size (.lst [])) fp) [] (bst fv σ none) (upd H s2.heap.objs.size (.lst [])) s4:=
  blk_start B I3 hf3 rfl hfC (by rw [← hs4]) (by rw [← hs4]) (fun b o e=>by rw [h4];exact up4 b o e) (by rw [h4];exact hns₁)
 have st4:tn 0 s4.heap:=by rw [h4];exact T.keep 0 _ _ st3 fun b _ o e=>up4 b o e
 have stat:∀{H':Hp},(∀b∈fp,H' b=none)->∀b∈fp,FpOk (blk X x fv scope cl s3.heap.objs.size s3 (upd H s2.heap.objs.size (.lst [])) fp) [] H' b:=fun {H'} hn b hb=>by
  obtain⟨_,f1,f2,f3,f4,f5⟩:=hf b hb
  refine⟨hn b hb,hfC b hb,fun z=>?_,.inl hb,fun y c e=>f4 y c (B.sub y c e),fun p hp=>absurd (show p∈([]:List (Addr×Obj)) from hp) (by simp)⟩
  rcases List.mem_cons.mp (I.stkSub b z) with q | q
  ·exact f1 q
  ·exact f2 q
 have loop:codeAny (model X.prog X.w) X.A (.compLoop (.ListComp elt [⟨.Name x px,iter,[],0⟩] scope pos) 0 (.ref it) (.ref s2.heap.objs.size) (compEnvC scope cl s3.heap.objs.size X.env)) (RR (.ref s2.heap.objs.size) s3.heap.objs.size) s4:=by
  refine compLoop_one (fun n s'=>∃i H' o,Inv (blk X x fv scope cl s3.heap.objs.size s3 (upd H s2.heap.objs.size (.lst [])) fp) [] (bst fv σ o) H' s'∧tn i s'.heap∧(∀b∈fp,H' b=none)∧W i n H') ?_ m0
   ⟨0,_,none,I4,st4,fun b hb=>(hf3 b hb).1,w0⟩
  rintro n s5 E' ⟨i,H5,o5,I5,st5,fr5,w5⟩
  rcases turn i n H5 w5 with ⟨stop,q⟩ | ⟨go,N,hN,step⟩
  ·refine thn (T.done (blk X x fv scope cl s3.heap.objs.size s3 (upd H s2.heap.objs.size (.lst [])) fp) rfl rfl rfl hc i [] s5 _ H5 _ I5 (stat fr5) st5 stop) fun r s6 ⟨hr,I6⟩=>?_
   subst hr
   obtain⟨m6,hn6,_⟩:=I6.loc
   have J6:Inv X pins σ H5 s6:=blk_back I I6.hok I6.bare hD up3 I6.base (I6.os.trans (by rw [← hs3])) hf
   refine hRR _ _ s6 H5 m6 J6 ?_ hn6 q
   exact I3.fpOk (Nat.le_refl _) I6.free
  ·refine thn (T.item (blk X x fv scope cl s3.heap.objs.size s3 (upd H s2.heap.objs.size (.lst [])) fp) rfl rfl rfl hc i [] s5 _ H5 _ I5 (stat fr5) st5 go) fun r s6 ⟨u,hr,h6⟩=>?_
   subst hr
   refine thn h6 fun _ s7 ⟨v,H7,I7,r7,y7,st7,fr7⟩=>?_
   have I7':=I7.pinned (stat fr7) (T.obj _ _ st7)
   refine blk_store B I7' r7 fun s8 I8=>?_
   have e8:=he _ _ _ _ _ s8 _ H7 _ I8 (step v H7 y7)
   refine wpAny_mono e8 (fun y s9 ⟨yv,H9,I9,r9,ys,hD9,hz,n9⟩=>?_) fun _ _ z=>False.elim z
   have a9:=blk_tail (E':=E') T (fun _ _ z=>z) st7 I9 r9 hD9 hz n9 hN
   refine wpAny_mono a9 (fun _ s10 zz=>?_) fun _ _ z=>z
   obtain⟨m',hm,H10,I10,t10,f10,w9⟩:=zz
   exact⟨m',hm,i+1,H10,_,I10,t10,f10,w9⟩
 exact codeAny_compStart_list loop (T.self _ 0 _ _ _ st4 loop)
end
section
variable {X:Cx} {elt iter:Expr} {x:Str} {px:Pos} {fv:List (Nat×Str)} {scope:Scope} {cl:List (Str×Addr)} {pos:Pos} {te:TE} {wi:TI}
theorem pe_lcomp (hc:X.calm=true) (B:BlkOk X x fv scope cl) (hi:PI X (.Name x px) iter wi) (he:∀C s H fp,PE (blk X x fv scope cl C s H fp) elt te)
  (hs:∀v,foldedSetIterable iter X.env v=pure v:=by intro _;rfl):PE X (.ListComp elt [⟨.Name x px,iter,[],0⟩] scope pos) (tComp fv wi te):=by
 intro pins s σ H Q I h
 rw [eval_ListComp]
 refine wpAny_comprehension_free (use:=none) rfl hs B.clos B.kind B.names (thn (hi pins s σ H _ I h) fun v s1 h1=>thn h1 fun itv s2 h2=>?_)
 obtain⟨it,fp,tn,J,H2,e,I2,T,st2,f2,rd⟩:=h2
 subst e
 refine blk_run (RR:=fun acc C=>compPost (model X.prog X.w) X.A X.xe none (EP X pins σ Q) acc C) hc B he I2 T st2 f2 rd ?_
 intro D C s' H' m' I' fC hn q
 exact⟨m',hn,fun h' sb=>⟨.ref D,H',I'.turned (t':=s'.toks) (fun b o hb e=>(sb.2 b hb).trans e) fC.1 fC.2.1 fC.2.2.2.1 fC.2.2.2.2.1 fC.2.2.2.2.2,rfl,q⟩⟩
theorem ps_setC {i:Nat} {y:Str} {py spos:Pos} (hc:X.calm=true) (B:BlkOk X x fv scope cl) (hi:PI X (.Name x px) iter wi) (he:∀C s H fp,PE (blk X x fv scope cl C s H fp) elt te)
  (hN:X.N.Nodup) (hiy:X.N[i]?=some y) (hy:X.env.scope.names.lookup y=some .local)
  (hsw:swapsWith (.ListComp elt [⟨.Name x px,iter,[],0⟩] scope pos) (some (.Name y py)) spos.line X.env=pure true:=by rfl)
  (hs:∀v,foldedSetIterable iter X.env v=pure v:=by intro _;rfl):
  PS X (.Assign [.Name y py] (.ListComp elt [⟨.Name x px,iter,[],0⟩] scope pos) spos) (tAsg (tComp fv wi te) (gName i)):=by
 intro pins s σ H D I h
 rw [exec_Assign_Name_used _ _ _ _ hsw]
 refine wpAny_bind (wpAny_standAt (wpAny_bind ?_))
 show wpAny _ X.A (do let _ ← comprehension (.ListComp elt [⟨.Name x px,iter,[],0⟩] scope pos) scope X.env _ (newList []) false (eval iter X.env) (some (assign (.Name y py) X.env))) _ _ s
 refine wpAny_bind (wpAny_mono (wpAny_comprehension_free (use:=some (assign (.Name y py) X.env)) (Q:=fun _ s'=>SP X pins D .next s') rfl hs B.clos B.kind B.names
  (thn (hi pins s σ H _ I h) fun v s1 h1=>thn h1 fun itv s2 h2=>?_)) (fun _ s' hq=>wpAny_pure (wpAny_pure hq)) fun _ _ e=>e)
 obtain⟨it,fp,tn,J,H2,e,I2,T,st2,f2,rd⟩:=h2
 subst e
 refine blk_run (Q:=fun x H1=>gName i x σ H1 D.nx) (RR:=fun acc C=>compPost (model X.prog X.w) X.A X.xe (some (assign (.Name y py) X.env)) (fun _ s'=>SP X pins D .next s') acc C) hc B he I2 T st2 f2 rd ?_
 intro Dl C s' H' m' I' fC hn q
 show wpAny _ X.A (assign (.Name y py) X.env (.ref Dl)) _ _ _
 refine wpAny_assign_Name (store_ok2 I' hN hiy (.inl hy) (v:=.ref Dl) rfl (fun s'' I'' hab=>?_) (.inr hy))
 obtain⟨a,sb,ha⟩:=hab
 have hCa:C≠a:=by
  rcases ha with rfl | e
  ·exact fC.2.1
  ·exact Ne.symm (fC.2.2.2.2.1 _ _ e)
 exact⟨m',hn.sameBut sb hCa,fun h' sb'=>⟨_,H',I''.turned (t':=s''.toks) (fun b o hb e=>(sb'.2 b hb).trans e) fC.1 fC.2.1 fC.2.2.2.1 fC.2.2.2.2.1 fC.2.2.2.2.2,q⟩⟩
end
def Itrs (lo c:Int) (n:Nat):It:=⟨fun i _=>i < n,fun i H x H'=>H'=H∧x=.int (lo+i * c),fun i _=>n<=i⟩
section
variable {X:Cx} {tg:Expr}
def iRng3 (ta:TA):TI:=fun σ H R=>ta σ H fun vs H1=>∃(i j k:Int) (n:Nat),vs=[.int i,.int j,.int k]∧k≠0∧k.natAbs < 1073741824∧Builtin.Range.small i j k=true∧Builtin.Range.rangeSize i j k=n∧R (Itrs i k n) H1
end
theorem comp_list {K:W.Frag} {a:Addr} {xs:List V} {fv:List (Nat×Str)} {te:TE} {Q:VK} {σ:St} {H1:Hp} {D:Addr} (Pv:Nat->Hp->Prop) (h0:Pv 0 (upd H1 D (.lst []))) (hl:∀i H,i<=xs.length->Pv i H->SqL K H a xs)
  (hs:∀i v H,xs[i]?=some v->Pv i H->te (bst fv σ (some v)) H fun y H2=>∃ys,H2 D=some (.lst ys)∧ys.length < sizeLine∧Pv (i+1) (upd H2 D (.lst (ys++[y])))) (hd:∀H,Pv xs.length H->Q (.ref D) H):
  ∃W:Nat->Nat->Hp->Prop,(∃m,W 0 m (upd H1 D (.lst [])))∧∀i m H,W i m H->
   ((Itl K a).stop i H∧Q (.ref D) H)∨((Itl K a).go i H∧∃N:Hp->Prop,(∀H',N H'->∃m',m' < m∧W (i+1) m' H')∧∀v H',(Itl K a).yld i H v H'->te (bst fv σ (some v)) H' fun y H2=>∃ys,H2 D=some (.lst ys)∧ys.length < sizeLine∧N (upd H2 D (.lst (ys++[y])))):=by
 refine⟨fun i m H=>m=xs.length - i∧i<=xs.length∧Pv i H,⟨xs.length,by simp,Nat.zero_le _,h0⟩,?_⟩
 rintro i m H ⟨rfl,hi,p⟩
 have q:=hl i H hi p
 by_cases hlt:i < xs.length
 ·refine .inr ⟨⟨xs,xs[i],q,List.getElem?_eq_getElem hlt⟩,Pv (i+1),fun H' p'=>⟨xs.length - (i+1),by omega,rfl,hlt,p'⟩,fun v H' y=>?_⟩
  obtain⟨e,y⟩:=y
  subst e
  exact hs i v _ (y xs q) p
 ·have e:i=xs.length:=by omega
  subst e
  exact .inl ⟨⟨xs,q,Nat.le_refl _⟩,hd H p⟩
theorem comp_range {lo:Int} {n:Nat} {fv:List (Nat×Str)} {te:TE} {Q:VK} {σ:St} {H1:Hp} {D:Addr} (Pv:Nat->Hp->Prop) (h0:Pv 0 (upd H1 D (.lst [])))
  (hs:∀i H,i < n->Pv i H->te (bst fv σ (some (.int (lo+i)))) H fun y H2=>∃ys,H2 D=some (.lst ys)∧ys.length < sizeLine∧Pv (i+1) (upd H2 D (.lst (ys++[y])))) (hd:∀H,Pv n H->Q (.ref D) H):
  ∃W:Nat->Nat->Hp->Prop,(∃m,W 0 m (upd H1 D (.lst [])))∧∀i m H,W i m H->
   ((Itr lo n).stop i H∧Q (.ref D) H)∨((Itr lo n).go i H∧∃N:Hp->Prop,(∀H',N H'->∃m',m' < m∧W (i+1) m' H')∧∀v H',(Itr lo n).yld i H v H'->te (bst fv σ (some v)) H' fun y H2=>∃ys,H2 D=some (.lst ys)∧ys.length < sizeLine∧N (upd H2 D (.lst (ys++[y])))):=by
 refine⟨fun i m H=>m=n - i∧i<=n∧Pv i H,⟨n,by simp,Nat.zero_le _,h0⟩,?_⟩
 rintro i m H ⟨rfl,hi,p⟩
 by_cases hlt:i < n
 ·refine .inr ⟨hlt,Pv (i+1),fun H' p'=>⟨n - (i+1),by omega,rfl,hlt,p'⟩,fun v H' y=>?_⟩
  obtain⟨e,y⟩:=y
  subst e y
  exact hs i _ hlt p
 ·have e:i=n:=by omega
  subst e
  exact .inl ⟨Nat.le_refl _,hd H p⟩
theorem sub_nil {cells:List (Str×Addr)}:∀y c,([]:List (Str×Addr)).lookup y=some c->cells.lookup y=some c:=fun _ _ h=>nomatch h
theorem sub_cons {n:Str} {c0:Addr} {r cells:List (Str×Addr)} (h0:cells.lookup n=some c0) (h:∀y c,r.lookup y=some c->cells.lookup y=some c):∀y c,((n,c0) :: r).lookup y=some c->cells.lookup y=some c:=fun y c q=>by
 rw [List.lookup_cons] at q
 cases e:y == n with
 | true=>
  rw [e] at q
  cases q
  rw [eq_of_beq e];exact h0
 | false=>
  rw [e] at q
  exact h y c q
theorem has_of {l:List (Str×NameKind)} {cl:List (Str×Addr)} (h:(l.all fun p=>(p.2 != .cell && p.2 != .free) || (cl.lookup p.1).isSome)=true):∀y,(l.lookup y=some .cell∨l.lookup y=some .free)->∃c,cl.lookup y=some c:=fun y hy=>by
 have key:∀k,l.lookup y=some k->(k=.cell∨k=.free)->∃c,cl.lookup y=some c:=fun k e hk=>by
  have q:=List.all_eq_true.mp h (y,k) (PySem.mem_of_lookup e)
  have z:(k != .cell && k != .free)=false:=by rcases hk with rfl | rfl <;> rfl
  rw [show ((y,k).2 != .cell && (y,k).2 != .free)=false from z,Bool.false_or] at q
  exact Option.isSome_iff_exists.mp q
 rcases hy with e | e
 ·exact key _ e (.inl rfl)
 ·exact key _ e (.inr rfl)
def FvOk (X:Cx) (x:Str) (scope:Scope) (cl:List (Str×Addr)) (fv:List (Nat×Str)):Prop:=
 ∀p∈fv,p.2≠x∧X.N[p.1]?=some p.2∧(X.env.scope.names.lookup p.2=some .cell∨X.env.scope.names.lookup p.2=some .free)∧
  ((relabel scope X.env).names.lookup p.2=some .cell∨(relabel scope X.env).names.lookup p.2=some .free)∧∃c,cl.lookup p.2=some c
theorem fv_nil {X:Cx} {x:Str} {scope:Scope} {cl:List (Str×Addr)}:FvOk X x scope cl []:=fun _ h=>nomatch h
theorem fv_cons {X:Cx} {x:Str} {scope:Scope} {cl:List (Str×Addr)} {fv:List (Nat×Str)} (i:Nat) (y:Str) (h1:y≠x) (h2:X.N[i]?=some y) (h3:X.env.scope.names.lookup y=some .cell∨X.env.scope.names.lookup y=some .free)
  (h4:(relabel scope X.env).names.lookup y=some .cell∨(relabel scope X.env).names.lookup y=some .free) (h5:∃c,cl.lookup y=some c) (r:FvOk X x scope cl fv):FvOk X x scope cl ((i,y) :: fv):=fun p hp=>by
 rcases List.mem_cons.mp hp with rfl | hp
 ·exact⟨h1,h2,h3,h4,h5⟩
 ·exact r p hp
theorem blkok {X:Cx} {x:Str} {fv:List (Nat×Str)} {scope:Scope} {cl:List (Str×Addr)} (clos:closureFor scope X.env=pure cl) (sub:∀y c,cl.lookup y=some c->X.env.cells.lookup y=some c) (fvs:FvOk X x scope cl fv)
  (kind:scope.kind=.function:=by rfl) (here:scope.names.lookup x=some .local:=by rfl) (nocell:∀y∈scope.names,y.2≠.cell:=by decide +kernel)
  (names:∀y∈scope.names,y.2=.local->scope.names.lookup y.1=some .local:=by decide +kernel)
  (has:((relabel scope X.env).names.all fun p=>(p.2 != .cell && p.2 != .free) || (cl.lookup p.1).isSome)=true:=by rfl):BlkOk X x fv scope cl:=
 ⟨clos,nocell,kind,names,here,sub,has_of has,fvs⟩
section
variable {X:Cx}
theorem mt_bitlen:MtR X "int.bit_length" (fun x xs H Q=>∃i,x=.int i∧xs=[]∧Q (.int (Builtin.Int.intBits i:Nat)) H):=by
 intro pins s σ H x xs v us Q I rx rv h
 obtain⟨i,rfl,rfl,q⟩:=h
 cases rv
 obtain⟨t,rfl⟩:=rx
 exact call_gives F.slot_int_bit_length (typeIs_int s i t) F.entry_int_bit_length (F.args_int_bit_length_1 _) (PySem.AutoIntG2.int_bit_length_int_0 i t) ⟨.int _,H,I.tok _,⟨_,rfl⟩,q⟩
end
theorem intBits_le_of {i:Int} {k:Nat} (h:i.natAbs < 2 ^ k):Builtin.Int.intBits i<=k:=by
 unfold Builtin.Int.intBits
 split
 ·exact Nat.zero_le _
 ·rename_i hz
  have hz':i≠0:=by simpa using hz
  have:i.natAbs.log2 < k:=(Nat.log2_lt (by omega)).mpr h
  omega
theorem mulOk_of {i j:Int} {k l:Nat} (h1:i.natAbs < 2 ^ k) (h2:j.natAbs < 2 ^ l) (h:k+l<=134217728):IntMulOk i j:=IntMulOk.of_le (intBits_le_of h1) (intBits_le_of h2) h
theorem op_fdivB {X:Cx}:OpR X (binaryOp .FloorDiv) (rI (fun _ j=>j≠0∧j.natAbs < 2 ^ 9000) fun i j=>.int (i.fdiv j)):=
 opI fun _ j _ _ _ _ _ hc q=>floordiv_int hc.1 q (.inl (PyProof.noPylong_of_log2 ((Nat.log2_lt (by have:=hc.1;omega)).mpr hc.2)))
section
variable {σ:St} {H:Hp} {Q:VK} {D:Ends} {t u:TS} {te ta tb tc to ti:TE} {tt:TT} {tA:TA} {i:Nat} {x y v:V} {r r':R2} {QT:Bool->Hp->Prop} {QA:List V->Hp->Prop}
theorem a_seq:tSeq t u D σ H=t { D with nx:=u D } σ H:=rfl
theorem a_next:tNext D σ H=D.nx σ H:=rfl
theorem a_brk:tBreak D σ H=D.bk σ H:=rfl
theorem a_cnt:tCont D σ H=D.ct σ H:=rfl
theorem a_drop:tDrop te D σ H=te σ H fun _ H1=>D.nx σ H1:=rfl
theorem a_ret:tRet te D σ H=te σ H D.rt:=rfl
theorem a_retN:tRetN D σ H=D.rt .non H:=rfl
theorem a_if:tIfS tt t u D σ H=tt σ H fun b H1=>if b=true then t D σ H1 else u D σ H1:=rfl
theorem a_asg {g:TG}:tAsg te g D σ H=te σ H fun x H1=>g x σ H1 D.nx:=rfl
theorem a_gname {Q:St->Hp->Prop}:gName i v σ H Q=Q (σ.set i (some v)) H:=rfl
theorem a_gsub {ts:TSet} {Q:St->Hp->Prop}:gSub to ti ts v σ H Q=to σ H fun o H1=>ti σ H1 fun i H2=>ts o i v H2 fun H3=>Q σ H3:=rfl
theorem a_gtup {K:W.Frag} {n:Nat} {ts:TGs} {Q:St->Hp->Prop}:gTup K n ts v σ H Q=∃a xs,v=.ref a∧SqT K H a xs∧xs.length=n∧ts xs σ H Q:=rfl
theorem a_gnil {vs:List V} {Q:St->Hp->Prop}:gNil vs σ H Q=(vs=[]∧Q σ H):=rfl
theorem a_gcons {g:TG} {gs:TGs} {vs:List V} {Q:St->Hp->Prop}:gCons g gs vs σ H Q=∃v r,vs=v :: r∧g v σ H fun σ' H'=>gs r σ' H' Q:=rfl
theorem a_aug {ip:TIp}:tAug i te ip D σ H=∃x,σ[i]?=some (some x)∧te σ H fun y H1=>ip x y H1 fun z H2=>D.nx (σ.set i (some z)) H2:=rfl
theorem a_augS {tget:V->V->Hp->VK->Prop} {tip:TIp} {tset:TSet}:tAugS to ti te tget tip tset D σ H=to σ H fun o H1=>ti σ H1 fun i H2=>tget o i H2 fun x H3=>te σ H3 fun y H4=>tip x y H4 fun z H5=>tset o i z H5 fun H6=>D.nx σ H6:=rfl
theorem a_ipI {f:Int->Int->Int}:ipI f x y H Q=∃i j,x=.int i∧y=.int j∧Q (.int (f i j)) H:=rfl
theorem a_var:tVar i σ H Q=∃v,σ[i]?=some (some v)∧Q v H:=rfl
theorem a_c:tC v σ H Q=Q v H:=rfl
theorem a_op:tOp r ta tb σ H Q=ta σ H fun x H1=>tb σ H1 fun y H2=>r x y H2 Q:=rfl
theorem a_un {r:V->Hp->VK->Prop}:tUn r ta σ H Q=ta σ H fun x H1=>r x H1 Q:=rfl
theorem a_rI {C:Int->Int->Prop} {g:Int->Int->V}:rI C g x y H Q=∃i j,x=.int i∧y=.int j∧C i j∧Q (g i j) H:=rfl
theorem a_rI0 {g:Int->Int->V}:rI0 g x y H Q=∃i j,x=.int i∧y=.int j∧Q (g i j) H:=rfl
theorem a_rU {g:Int->V}:rU g x H Q=∃i,x=.int i∧Q (g i) H:=rfl
theorem a_eqI {i j:Int}:rEq (.int i) (.int j) H Q=Q (.bl (decide (i=j))) H:=by
 show (true=true∧Q (.bl (decide (V.int i=V.int j))) H)=_
 rw [show decide (V.int i=V.int j)=decide (i=j) by rw [dec_int];exact Bool.beq_eq_decide_eq i j]
 simp
theorem a_neI {i j:Int}:rNe (.int i) (.int j) H Q=Q (.bl (!decide (i=j))) H:=by
 show (true=true∧Q (.bl (!decide (V.int i=V.int j))) H)=_
 rw [show decide (V.int i=V.int j)=decide (i=j) by rw [dec_int];exact Bool.beq_eq_decide_eq i j]
 simp
theorem a_eqB {i j:Bool}:rEq (.bl i) (.bl j) H Q=Q (.bl (decide (i=j))) H:=by
 show (true=true∧Q (.bl (decide (V.bl i=V.bl j))) H)=_
 cases i <;> cases j <;> simp
theorem a_neB {i j:Bool}:rNe (.bl i) (.bl j) H Q=Q (.bl (!decide (i=j))) H:=by
 show (true=true∧Q (.bl (!decide (V.bl i=V.bl j))) H)=_
 cases i <;> cases j <;> simp
theorem a_tB:tB te σ H QT=te σ H fun x H1=>∃c,x=.bl c∧QT c H1:=rfl
theorem a_test:tTest te σ H QT=te σ H fun x H'=>∃k,x=.bl k∧QT k H':=rfl
theorem a_and {tt':TT}:tAnd tt tt' σ H QT=tt σ H fun c H1=>if c=true then tt' σ H1 QT else QT false H1:=rfl
theorem a_or {tt':TT}:tOr tt tt' σ H QT=tt σ H fun c H1=>if c=true then QT true H1 else tt' σ H1 QT:=rfl
theorem a_not:tNot tt σ H QT=tt σ H fun c H1=>QT (!c) H1:=rfl
theorem a_andV:tAndV ta tb σ H Q=ta σ H fun x H1=>∃c,x=.bl c∧if c=true then tb σ H1 Q else Q (.bl false) H1:=rfl
theorem a_orV:tOrV ta tb σ H Q=ta σ H fun x H1=>∃c,x=.bl c∧if c=true then Q (.bl true) H1 else tb σ H1 Q:=rfl
theorem a_notV:tNotV ta σ H Q=ta σ H fun x H1=>∃c,x=.bl c∧Q (.bl (!c)) H1:=rfl
theorem a_ifE:tIf tt ta tb σ H Q=tt σ H fun c H1=>if c=true then ta σ H1 Q else tb σ H1 Q:=rfl
theorem a_chain:tChain r r' ta tb tc σ H Q=ta σ H fun x H1=>tb σ H1 fun y H2=>r x y H2 fun z H3=>∃k,z=.bl k∧(if k=true then tc σ H3 fun w' H4=>r' y w' H4 Q else Q (.bl false) H3):=rfl
theorem a_nil:tNil σ H QA=QA [] H:=rfl
theorem a_cons:tCons ta tA σ H QA=ta σ H fun x H1=>tA σ H1 fun xs H2=>QA (x :: xs) H2:=rfl
theorem a_lst:tLst tA σ H Q=tA σ H fun xs H1=>xs.length<=sizeLine∧∀p,H1 p=none->Q (.ref p) (upd H1 p (.lst xs)):=rfl
theorem a_tup:tTup tA σ H Q=tA σ H fun xs H1=>xs.length<=sizeLine∧∀p,H1 p=none->Q (.ref p) (upd H1 p (.tup xs)):=rfl
theorem a_call {sp:Sp} {dvs:List V} {E:XK}:tCall sp dvs E tA σ H Q=tA σ H fun vs H1=>sp (vs++dvs) H1 Q E:=rfl
theorem a_cb {r:List V->Hp->VK->Prop}:tCB r tA σ H Q=tA σ H fun vs H1=>r vs H1 Q:=rfl
theorem a_bm0 {K:W.Frag} {T:String} {r:V->List V->Hp->VK->Prop}:tBM0 K T r to σ H Q=to σ H fun x H1=>tyV K T x H1∧r x [] H1 Q:=rfl
theorem a_bm {K:W.Frag} {T:String} {r:V->List V->Hp->VK->Prop}:tBM K T r to tA σ H Q=to σ H fun x H1=>tyV K T x H1∧tA σ H1 fun xs H2=>r x xs H2 Q:=rfl
theorem a_sl {r:V->Option Int->Option Int->Hp->VK->Prop} {tl th:TO}:tSl r te tl th σ H Q=te σ H fun x H1=>tl σ H1 fun l H2=>th σ H2 fun u H3=>r x l u H3 Q:=rfl
theorem a_nopart {Q:Option Int->Hp->Prop}:tNoPart σ H Q=Q none H:=rfl
theorem a_part {Q:Option Int->Hp->Prop}:tPart te σ H Q=te σ H fun x H1=>∃i,x=.int i∧Q (some i) H1:=rfl
theorem a_tyI {K:W.Frag} {T:String} {i:Int}:tyV K T (.int i) H=(T = "int"):=rfl
theorem a_tyL {K:W.Frag} {p:Addr} {xs:List V} (h:SqL K H p xs):tyV K "list" (.ref p) H:=.inl ⟨rfl,xs,h⟩
end
def Loop (J:It) (g:TG) (tb:TS) (D:Ends) (σ:St) (H:Hp):Prop:=∃W:Nat->Nat->St->Hp->Prop,(∃m,W 0 m σ H)∧∀i m σ H,W i m σ H->
 (J.stop i H∧D.nx σ H)∨(J.go i H∧∃N:St->Hp->Prop,(∀σ' H',N σ' H'->∃m',m' < m∧W (i+1) m' σ' H')∧∀x H',J.yld i H x H'->g x σ H' fun σ2 H2=>tb { D with nx:=N,ct:=N,bk:=D.nx } σ2 H2)
theorem a_for {wi:TI} {g:TG} {tb:TS} {D:Ends} {σ:St} {H:Hp}:tFor wi g tb D σ H=wi σ H fun J H1=>Loop J g tb D σ H1:=rfl
def CLoop (J:It) (fv:List (Nat×Str)) (te:TE) (Q:VK) (σ:St) (H1:Hp) (D:Addr):Prop:=∃W:Nat->Nat->Hp->Prop,(∃m,W 0 m (upd H1 D (.lst [])))∧∀i m H,W i m H->
 (J.stop i H∧Q (.ref D) H)∨(J.go i H∧∃N:Hp->Prop,(∀H',N H'->∃m',m' < m∧W (i+1) m' H')∧∀v H',J.yld i H v H'->te (bst fv σ (some v)) H' fun y H2=>∃ys,H2 D=some (.lst ys)∧ys.length < sizeLine∧N (upd H2 D (.lst (ys++[y]))))
theorem a_comp {fv:List (Nat×Str)} {wi:TI} {te:TE} {σ:St} {H:Hp} {Q:VK}:tComp fv wi te σ H Q=wi σ H fun J H1=>∀D,H1 D=none->CLoop J fv te Q σ H1 D:=rfl
theorem a_ilist {K:W.Frag} {tl:TE} {σ:St} {H:Hp} {R:It->Hp->Prop}:iList K tl σ H R=tl σ H fun x H1=>∃a,x=.ref a∧(∃xs,SqL K H1 a xs)∧R (Itl K a) H1:=rfl
theorem a_itup {K:W.Frag} {tl:TE} {σ:St} {H:Hp} {R:It->Hp->Prop}:iTup K tl σ H R=tl σ H fun x H1=>∃a,x=.ref a∧(∃xs,SqT K H1 a xs)∧R (Itt K a) H1:=rfl
theorem a_irng1 {ta:TA} {σ:St} {H:Hp} {R:It->Hp->Prop}:iRng1 ta σ H R=ta σ H fun vs H1=>∃j:Int,vs=[.int j]∧-(2 ^ 62)<=j∧j < 2 ^ 62∧R (Itr 0 j.toNat) H1:=rfl
theorem a_irng2 {ta:TA} {σ:St} {H:Hp} {R:It->Hp->Prop}:iRng2 ta σ H R=ta σ H fun vs H1=>∃i j:Int,vs=[.int i,.int j]∧(-(2 ^ 62)<=i∧i < 2 ^ 62∧-(2 ^ 62)<=j∧j < 2 ^ 62)∧R (Itr i (j - i).toNat) H1:=rfl
theorem a_irng3 {ta:TA} {σ:St} {H:Hp} {R:It->Hp->Prop}:iRng3 ta σ H R=ta σ H fun vs H1=>∃(i j k:Int) (n:Nat),vs=[.int i,.int j,.int k]∧k≠0∧k.natAbs < 1073741824∧Builtin.Range.small i j k=true∧Builtin.Range.rangeSize i j k=n∧R (Itrs i k n) H1:=rfl
theorem while_of {c:TT} {tb:TS} {D:Ends} {σ:St} {H:Hp} (Pv:Nat->St->Hp->Prop) (m:Nat) (h0:Pv m σ H)
  (hs:∀m σ H,Pv m σ H->c σ H fun b H1=>if b=true then ∃N:St->Hp->Prop,(∀σ' H',N σ' H'->∃m',m' < m∧Pv m' σ' H')∧tb { D with nx:=N,ct:=N,bk:=D.nx } σ H1 else D.nx σ H1):tWhile c tb D σ H:=⟨Pv,⟨m,h0⟩,hs⟩
section
variable {σ:St} {H:Hp} {Q:VK} {x y v:V} {K:W.Frag}
theorem a_rslL {lo hi:Option Int}:rSlL K x lo hi H Q=∃a xs,x=.ref a∧SqL K H a xs∧∀p,H p=none->Q (.ref p) (upd H p (.lst (cutV xs lo hi))):=rfl
theorem a_ixL:rIxL K x y H Q=∃p xs i v,x=.ref p∧y=.int i∧SqL K H p xs∧atI xs i=some v∧Q v H:=rfl
theorem a_ixT:rIxT K x y H Q=∃p xs i v,x=.ref p∧y=.int i∧SqT K H p xs∧atI xs i=some v∧Q v H:=rfl
theorem a_setL {Q:Hp->Prop}:rSetL x y v H Q=∃p xs k j,x=.ref p∧y=.int k∧H p=some (.lst xs)∧ixN xs.length k=some j∧Q (upd H p (.lst (xs.set j v))):=rfl
theorem a_app {vs:List V}:rAppend x vs H Q=∃l xs y,x=.ref l∧vs=[y]∧H l=some (.lst xs)∧xs.length < sizeLine∧Q .non (upd H l (.lst (xs++[y]))):=rfl
end
theorem bt_len:bootBuiltins "len" = some (.builtin "len"):=by decide +kernel
theorem bt_abs:bootBuiltins "abs" = some (.builtin "abs"):=by decide +kernel
theorem bt_isinstance:bootBuiltins "isinstance" = some (.builtin "isinstance"):=by decide +kernel
theorem bt_min:bootBuiltins "min" = some (.builtin "min"):=by decide +kernel
theorem bt_max:bootBuiltins "max" = some (.builtin "max"):=by decide +kernel
theorem bt_int:bootBuiltins "int" = some (.type "int"):=by decide +kernel
theorem bt_list:bootBuiltins "list" = some (.type "list"):=by decide +kernel
theorem bt_tuple:bootBuiltins "tuple" = some (.type "tuple"):=by decide +kernel
theorem bt_ValueError:bootBuiltins "ValueError" = some (.type "ValueError"):=by decide +kernel
def tMid (t u:TS):TS:=fun D σ H=>∃M:St->Hp->Prop,t { D with nx:=M } σ H∧∀σ' H',M σ' H'->u D σ' H'
theorem pss_mid {X:Cx} {st:Stmt} {rest:List Stmt} {t u:TS} (h1:PS X st t) (h2:PSs X rest u):PSs X (st :: rest) (tMid t u):=by
 intro pins s σ H D I h
 obtain⟨M,h,hM⟩:=h
 refine wpAny_execs_cons (thn (h1 pins s σ H { D with nx:=M } I h) fun f s1 q=>?_)
 cases f with
 | next=>
  obtain⟨σ',H',I',q⟩:=q
  exact h2 pins s1 σ' H' D I' (hM σ' H' q)
 | ret v=>exact q
 | brk=>exact q
 | cont=>exact q
theorem mid_of {t u:TS} {D:Ends} {σ:St} {H:Hp} (M:St->Hp->Prop) (h1:t { D with nx:=M } σ H) (h2:∀σ' H',M σ' H'->u D σ' H'):tMid t u D σ H:=⟨M,h1,h2⟩
theorem a_cxK {CX:CXT} {P:Program} {w:World} {K:W.Frag} {mg:Str->Option Value} {base:Heap} {N:List Str} {qual:Str} {scope:Scope} {f:Addr} {cd:Value} {A:Around} {outer:List Env} {s:Shared} {H:Hp} {E:XK}:
  (cxOf CX P w K mg base N qual scope f cd A outer s H E).K=K:=rfl
section
variable {K:W.Frag} {a:Addr} {xs:List V} {g:TG} {tb:TS} {D:Ends} {σ:St} {H H1:Hp} {fv:List (Nat×Str)} {te:TE} {Q:VK} {L:Addr} {lo c:Int} {n:Nat}
theorem cl_list (Pv:Nat->Hp->Prop) (h0:Pv 0 (upd H1 L (.lst []))) (hl:∀i H,i<=xs.length->Pv i H->SqL K H a xs)
  (hs:∀i v H,xs[i]?=some v->Pv i H->te (bst fv σ (some v)) H fun y H2=>∃ys,H2 L=some (.lst ys)∧ys.length < sizeLine∧Pv (i+1) (upd H2 L (.lst (ys++[y])))) (hd:∀H,Pv xs.length H->Q (.ref L) H):
  CLoop (Itl K a) fv te Q σ H1 L:=comp_list Pv h0 hl hs hd
theorem cl_range (Pv:Nat->Hp->Prop) (h0:Pv 0 (upd H1 L (.lst [])))
  (hs:∀i H,i < n->Pv i H->te (bst fv σ (some (.int (lo+i)))) H fun y H2=>∃ys,H2 L=some (.lst ys)∧ys.length < sizeLine∧Pv (i+1) (upd H2 L (.lst (ys++[y])))) (hd:∀H,Pv n H->Q (.ref L) H):
  CLoop (Itr lo n) fv te Q σ H1 L:=comp_range Pv h0 hs hd
theorem lp_list (Pv:Nat->St->Hp->Prop) (h0:Pv 0 σ H) (hl:∀i σ H,i<=xs.length->Pv i σ H->SqL K H a xs)
  (hs:∀i v σ H,xs[i]?=some v->Pv i σ H->g v σ H fun σ2 H2=>tb { D with nx:=Pv (i+1),ct:=Pv (i+1),bk:=D.nx } σ2 H2) (hd:∀σ H,Pv xs.length σ H->D.nx σ H):Loop (Itl K a) g tb D σ H:=for_list Pv h0 hl hs hd
theorem lp_range (Pv:Nat->St->Hp->Prop) (h0:Pv 0 σ H)
  (hs:∀i σ H,i < n->Pv i σ H->g (.int (lo+i)) σ H fun σ2 H2=>tb { D with nx:=Pv (i+1),ct:=Pv (i+1),bk:=D.nx } σ2 H2) (hd:∀σ H,Pv n σ H->D.nx σ H):Loop (Itr lo n) g tb D σ H:=for_range Pv h0 hs hd
theorem upd_none {p:Addr} {o:HO} (h:upd H p o L=none):L≠p∧H L=none:=by
 by_cases e:L=p
 ·subst e;rw [upd_same] at h;cases h
 ·rw [upd_ne e] at h;exact⟨e,h⟩
end
section
variable {X:Cx}
mutual
inductive DV (K:W.Frag) (H:Hp):V->PyData->Prop
 | non:DV K H .non .none
 | bl (b):DV K H (.bl b) (.bool b)
 | int (i):DV K H (.int i) (.int i)
 | str (x):DV K H (.str x) (.str x)
 | lst {a xs ds}:SqL K H a xs->DVs K H xs ds->DV K H (.ref a) (.list ds)
 | tup {a xs ds}:SqT K H a xs->DVs K H xs ds->DV K H (.ref a) (.tuple ds)
inductive DVs (K:W.Frag) (H:Hp):List V->List PyData->Prop
 | nil:DVs K H [] []
 | cons {x xs d ds}:DV K H x d->DVs K H xs ds->DVs K H (x :: xs) (d :: ds)
end
mutual
theorem DV.reads {pins:List (Addr×Obj)} {σ:St} {H:Hp} {s:Shared} (I:Inv X pins σ H s):∀{x:V} {d:PyData} {v:Value},DV X.K H x d->RelV x v->∃as,Reads s.heap v d as
 | _,_,_,.non,r=>by cases r;exact⟨_,.none⟩
 | _,_,_,.bl b,r=>by cases r;exact⟨_,.bool b⟩
 | _,_,_,.int i,r=>by obtain⟨t,rfl⟩:=r;exact⟨_,.int i t⟩
 | _,_,_,.str x,r=>by obtain⟨t,rfl⟩:=r;exact⟨_,.str x t⟩
 | _,_,_,.lst hq hs,r=>by
  cases r
  obtain⟨its,rv,⟨o,n,e,c,_,hd⟩,_⟩:=I.list hq
  obtain⟨as,ra⟩:=DVs.reads I hs rv
  exact⟨_,.list e c hd (by simpa using ra)⟩
 | _,_,_,.tup hq hs,r=>by
  cases r
  obtain⟨its,rv,⟨o,e,c,n,hd⟩,_⟩:=I.tuple hq
  obtain⟨as,ra⟩:=DVs.reads I hs rv
  exact⟨_,.tuple e c hd (by simpa using ra)⟩
theorem DVs.reads {pins:List (Addr×Obj)} {σ:St} {H:Hp} {s:Shared} (I:Inv X pins σ H s):∀{xs:List V} {ds:List PyData} {vs:List Value},DVs X.K H xs ds->Vals xs vs->∃as,ReadsAll s.heap vs ds as
 | _,_,_,.nil,r=>by cases r;exact⟨_,.nil⟩
 | _,_,_,.cons h t,r=>by
  cases r with
  | cons r1 r2=>
   obtain⟨as,ra⟩:=DV.reads I h r1
   obtain⟨bs,rb⟩:=DVs.reads I t r2
   exact⟨_,.cons ra rb⟩
end
theorem op_eqD (hu:X.A.units+64 < cLine):OpR X (compareOp .Eq) (fun x y H Q=>∃da db,DV X.K H x da∧DV X.K H y db∧da.canLay0=true∧db.canLay0=true∧da.depth<=64∧Q (.bl (PyData.eqv da db)) H):=by
 intro pins s σ H x y v u Q I rx ry h
 obtain⟨da,db,hx,hy,c1,c2,hd,q⟩:=h
 obtain⟨as,ra⟩:=hx.reads I rx
 obtain⟨bs,rb⟩:=hy.reads I ry
 exact PySem.SeqAt.eqOverData _ _ _ _ _ _ _ _ _ _ _ _ ra rb c1 c2 (by omega) ⟨.bl _,H,I,rfl,q⟩
theorem op_neD (hu:X.A.units+64 < cLine):OpR X (compareOp .NotEq) (fun x y H Q=>∃da db,DV X.K H x da∧DV X.K H y db∧da.canLay0=true∧db.canLay0=true∧da.depth<=64∧Q (.bl (!PyData.eqv da db)) H):=by
 intro pins s σ H x y v u Q I rx ry h
 obtain⟨da,db,hx,hy,c1,c2,hd,q⟩:=h
 obtain⟨as,ra⟩:=hx.reads I rx
 obtain⟨bs,rb⟩:=hy.reads I ry
 exact PySem.SeqAt.neOverData _ _ _ _ _ _ _ _ _ _ _ _ ra rb c1 c2 (by omega) ⟨.bl _,H,I,rfl,q⟩
end
def Ite (K:W.Frag) (a:Addr):It:=
 ⟨fun i H=>∃xs x,SqL K H a xs∧xs[i]?=some x,fun i H v H'=>∃p x,H p=none∧v=.ref p∧H'=upd H p (.tup [.int i,x])∧∀xs,SqL K H a xs->xs[i]?=some x,fun i H=>∃xs,SqL K H a xs∧xs.length<=i⟩
section
variable {X:Cx}
def iEnum (K:W.Frag) (ta:TA):TI:=fun σ H R=>ta σ H fun vs H1=>∃a xs,vs=[.ref a]∧SqL K H1 a xs∧R (Ite K a) H1
end
theorem a_ienum {K:W.Frag} {ta:TA} {σ:St} {H:Hp} {R:It->Hp->Prop}:iEnum K ta σ H R=ta σ H fun vs H1=>∃a xs,vs=[.ref a]∧SqL K H1 a xs∧R (Ite K a) H1:=rfl
def Itv (K:W.Frag) (a:Addr) (n:Nat):It:=
 ⟨fun i H=>i < n∧∃xs,SqL K H a xs∧xs.length=n,fun i H x H'=>H'=H∧∀xs,SqL K H a xs->xs[n - 1 - i]?=some x,fun i _=>i=n⟩
section
variable {X:Cx} {tg:Expr}
def iRev (K:W.Frag) (ta:TA):TI:=fun σ H R=>ta σ H fun vs H1=>∃a xs,vs=[.ref a]∧SqL K H1 a xs∧R (Itv K a xs.length) H1
end
theorem a_irev {K:W.Frag} {ta:TA} {σ:St} {H:Hp} {R:It->Hp->Prop}:iRev K ta σ H R=ta σ H fun vs H1=>∃a xs,vs=[.ref a]∧SqL K H1 a xs∧R (Itv K a xs.length) H1:=rfl
section
variable {σ:St} {H:Hp} {Q:VK} {x y v:V} {vs:List V}
theorem a_cat:rCat x y H Q=∃l b xs zs,x=.ref l∧y=.ref b∧H l=some (.lst xs)∧H b=some (.lst zs)∧xs.length+zs.length<=sizeLine∧∀p,H p=none->Q (.ref p) (upd H p (.lst (xs++zs))):=rfl
theorem a_rep:rRep x y H Q=∃l k xs,x=.ref l∧y=.int k∧H l=some (.lst xs)∧-(2 ^ 63)<=k∧k < 2 ^ 63∧xs.length * k.toNat<=sizeLine∧∀p,H p=none->Q (.ref p) (upd H p (.lst (List.replicate k.toNat xs).flatten)):=rfl
theorem a_pop:rPop x vs H Q=∃l xs y,x=.ref l∧vs=[]∧H l=some (.lst xs)∧xs[xs.length - 1]?=some y∧Q y (upd H l (.lst xs.dropLast)):=rfl
theorem a_clear:rClear x vs H Q=∃l xs,x=.ref l∧vs=[]∧H l=some (.lst xs)∧Q .non (upd H l (.lst [])):=rfl
end
theorem op_mulZ {X:Cx}:OpR X (binaryOp .Mult) (rI IntMulOk fun i j=>.int (i * j)):=opI fun _ _ _ _ _ _ _ hc q=>mul_int q hc
def Bd (k:Nat) (x:Int):Prop:=x.natAbs < 2 ^ k
theorem Bd.mono {k l:Nat} {x:Int} (h:Bd k x) (hl:k<=l):Bd l x:=Nat.lt_of_lt_of_le h (Nat.pow_le_pow_right (by decide) hl)
theorem Bd.one {k:Nat} (h:0 < k):Bd k 1:=by
 have:Bd 1 1:=by show (1:Nat) < 2 ^ 1;decide
 exact this.mono h
theorem Bd.fits {k l:Nat} {x y:Int} (h:Bd k x) (g:Bd l y) (hz:k+l<=134217728):IntMulOk x y:=mulOk_of h g hz
theorem Bd.of_lt {k:Nat} {x:Int} {m:Nat} (h:x.natAbs < m) (hm:m<=2 ^ k):Bd k x:=Nat.lt_of_lt_of_le h hm
def newL (H:Hp) (Q:VK) (ys:List V):Prop:=∀r H',Same H H'->H r=none->H' r=some (.lst ys)->Q (.ref r) H'
theorem same_upd {H:Hp} {p:Addr} (h:H p=none) (o:HO):Same H (upd H p o):=fun b u q=>by rw [upd_ne (ne_of_none q h)];exact q
theorem Same.seqT {K:W.Frag} {H H':Hp} {a:Addr} {xs:List V} (e:Same H H') (h:SqT K H a xs):SqT K H' a xs:=by
 rcases h with (h | ⟨o,h⟩) | h
 ·exact .inl (.inl (e _ _ h))
 ·exact .inl (.inr ⟨o,e _ _ h⟩)
 ·exact .inr h
theorem at_int {xs:List Int} {i:Nat} (h:i < xs.length):atI (xs.map V.int) (i:Int)=some (V.int xs[i]):=atI_nat (by rw [List.getElem?_map,List.getElem?_eq_getElem h];rfl)
theorem ixN_neg {n i:Nat} (h:0 < i) (h2:i<=n):ixN n (-(i:Int))=some (n - i):=by
 unfold ixN
 rw [if_neg (by omega),if_pos (by omega)]
 congr 1
 omega
theorem Same.more {H H':Hp} {p:Addr} {o:HO} (e:Same H H') (h:H p=none):Same H (L2.upd H' p o):=fun b u q=>by rw [upd_ne (ne_of_none q h)];exact e b u q
section
variable {κ:Type} [DecidableEq κ]
end
section
variable {P:Program} {w:World} {H:Hp} {h:Heap} {a:Addr}
end
section
variable {X:Cx} {pins:List (Addr×Obj)} {σ:St} {H:Hp} {s:Shared} {a:Addr} {y v:V} {u r:Value} {o:Option V} {A:Around} {E:Value->Shared->Prop}
end
section
variable {X:Cx} {pins:List (Addr×Obj)} {σ:St} {H:Hp} {s:Shared} {a:Addr} {kvs:List (Key×V)} {k:Key} {u:Value} {A:Around} {E:Value->Shared->Prop}
end
section
variable {X:Cx} {o i e value:Expr} {pos pos' tpos:Pos} {td ty tv:TE}
end
section
variable {X:Cx} {pos:Pos}
end
structure M1 (X:Cx) (o:Expr) (m:Str) (apos:Pos) (e:Expr) (cpos:Pos):Prop where
 base:attributeBase o m X.env (eval o X.env)=eval o X.env
 few:((backTo cpos (starEach [e] X.env)).all (fun x=>!x.1) && (backToKw cpos (keywordEach [] X.env)).all (fun x=>x.1.isSome)
  && decide (([e]:List Expr).length+([]:List Keyword).length+(if ([]:List Keyword).isEmpty then 0 else 1) < 30))=true
 line:(apos.endLine == cpos.line)=true
 trees:backTo cpos (starEach [e] X.env)=[(false,eval e X.env)]
structure M2 (X:Cx) (o:Expr) (m:Str) (apos:Pos) (e f:Expr) (cpos:Pos):Prop where
 base:attributeBase o m X.env (eval o X.env)=eval o X.env
 few:((backTo cpos (starEach [e,f] X.env)).all (fun x=>!x.1) && (backToKw cpos (keywordEach [] X.env)).all (fun x=>x.1.isSome)
  && decide (([e,f]:List Expr).length+([]:List Keyword).length+(if ([]:List Keyword).isEmpty then 0 else 1) < 30))=true
 line:(apos.endLine == cpos.line)=true
 trees:backTo cpos (starEach [e,f] X.env)=[(false,eval e X.env),(false,eval f X.env)]
section
variable {X:Cx} {pins:List (Addr×Obj)} {σ:St} {H:Hp} {s:Shared} {a:Addr} {y d:V} {u r:Value} {o:Option V} {A:Around} {E:Value->Shared->Prop}
end
section
variable {X:Cx} {o e f:Expr} {apos cpos:Pos} {td ty tx:TE}
end
section
variable {X:Cx} {pins:List (Addr×Obj)} {σ:St} {H:Hp} {s:Shared} {a:Addr} {kvs:List (Key×V)} {A:Around} {E:Value->Shared->Prop}
end
section
variable {X:Cx} {pins:List (Addr×Obj)} {σ:St} {H:Hp} {s:Shared} {a:Addr} {y:V} {u:Value} {A:Around} {E:Value->Shared->Prop}
end
theorem ObjOk.ex {P:Program} {w:World} {H:Hp} {h:Heap} {a:Addr} {o:HO} (x:ObjOk P w H h a o):∃ob,h.get? a=some ob:=by
 cases o with
 | lst xs=>obtain⟨_,_,_,_,e⟩:=x;exact⟨_,e⟩
 | tup xs=>obtain⟨_,_,_,ob,e,_⟩:=x;exact⟨_,e⟩
 | dK kvs=>obtain⟨_,_,_,_,o,_,_,e,_⟩:=x;exact⟨_,e⟩
 | dT kvs=>obtain⟨_,_,_,_,o,_,_,e,_⟩:=x;exact⟨_,e⟩
 | set S n=>obtain⟨o,_,_,_,e,_⟩:=x;exact⟨_,e⟩
 | ins C dx fs=>obtain⟨_,_,_,e,_⟩:=x;exact⟨_,e⟩
 | own y=>obtain⟨_,e⟩:=x;exact⟨_,e⟩
 | xd fs=>obtain⟨_,⟨_,_,_,e,_⟩,_⟩:=x;exact⟨_,e⟩
 | rng lo hi=>obtain⟨_,_,_,e⟩:=x;exact⟨_,e⟩
 | frz ob u=>obtain⟨e,_⟩:=x;exact⟨_,e⟩
 | tbl ps=>exact⟨_,(show h.get? a=some _ from x)⟩
 | met f y=>exact⟨_,(show h.get? a=some _ from x)⟩
 | ext φ=>obtain⟨_,e,_⟩:=x;exact e
structure Grd (P:Program) (w:World) (fs:List Addr) (H H':Hp) (h B:Heap):Prop where
 keep:∀b o,h.get? b=some o->H b=none->b∉fs->B.get? b=some o
 there:∀b o,h.get? b=some o->b∉fs->∃o',B.get? b=some o'
 free:∀b o,h.get? b=some o->H b=none->H' b=none
 tups:∀b xs,H b=some (.tup xs)->H' b=some (.tup xs)
 frzs:∀b o u,H b=some (.frz o u)->H' b=some (.frz o u)
 tbls:∀b ps,H b=some (.tbl ps)->∃more,H' b=some (.tbl (ps++more))
 hok:HOk P w H' B
def Slt (fs:List Addr) (h h':Heap):Prop:=∀b o,h.get? b=some o->b∈fs->∃sl,h'.get? b=some { o with slots:=sl }
theorem Grd.un {P:Program} {w:World} {fs:List Addr} {H H':Hp} {h B h':Heap} (G:Grd P w fs H H' h B) (st:B.StaysIn h') (sl:Slt fs h h'):Un fs [] H H' h h':=
 ⟨fun b o q n hb _=>st b o (G.keep b o q n hb),fun b o q _ hb _=>sl b o q hb,fun b o q n _=>G.free b o q n,fun b o q _=>by
  by_cases hb:b∈fs
  ·obtain⟨_,e⟩:=sl b o q hb
   exact⟨_,e⟩
  ·obtain⟨o',e⟩:=G.there b o q hb
   exact⟨o',st b o' e⟩,G.tups,G.frzs,G.tbls⟩
def CXE (P:Program) (w:World):CXT:=fun outer H s E e s'=>∃(a t C:Addr) (H':Hp) (B:Heap),e=.ref a∧s'.os=s.os∧AllBare s'.gens∧Heap.FlyingW B outer a (.ref C) (.ref t) s'.heap∧
 Grd P w (frs outer) H H' s.heap B∧Slt (frs outer) s.heap s'.heap∧E (.ref C) none H'
theorem passF {P:Program} {w:World} {X:Cx}:Passes (CXE P w) X E0:=fun _ _ _ _ _ _ _ h=>by
 obtain⟨_,_,_,_,_,_,_,_,_,_,_,q⟩:=h
 exact q.elim
structure Top1 (X:Cx):Prop where
 st:X.stack=X.env :: X.outer
 fr:X.env.frame=some X.env.locals
section
variable {X:Cx} {pins:List (Addr×Obj)} {σ:St} {H H':Hp} {s:Shared}
theorem Slt.up {h1 h2:Heap} (I:Inv X pins σ H s) (a:Slt (frs X.stack) s.heap h1) (u:h1.UpToSlots h2):Slt (frs X.stack) s.heap h2:=fun b o q hb=>by
 obtain⟨_,o',ho',hd⟩:=I.stack.mem hb
 rw [q] at ho';cases ho'
 obtain⟨_,e⟩:=a b o q hb
 obtain⟨sl',e'⟩:=u b _ e hd
 exact⟨sl',e'⟩
theorem HOk.hide {P:Program} {w:World} {h:Heap} {fs:List Addr} (x:HOk P w H h) (hf:∀b∈fs,H b=none):HOk P w H (PySem.W.hideAll h fs):=fun a o e=>
 (x a o e).stay (fun b u hb q=>PySem.W.hideAll_get _ q fun z=>by
  have n:=hf b z
  rcases hb with hb | hb
  ·rw [hb,e] at n;cases n
  ·rw [hb] at n;cases n) (fun _ q=>q) fun _ _ q=>q
end
section
variable {P:Program} {w:World} {K:W.Frag} {mg:Str->Option Value} {base:Heap} {N:List Str} {qual:Str} {scope:Scope} {f:Addr} {cd:Value} {A:Around} {outer:List Env} {s0:Shared} {H0:Hp} {E:XK}
theorem nofr0 {pins:List (Addr×Obj)} {σ:St} {H:Hp} {s:Shared} (I:Inv (cxOf (CXE P w) P w K mg base N qual scope f cd A outer s0 H0 E) pins σ H s) {b:Addr} {o:Obj} (q:s0.heap.get? b=some o) (hb:b∉frs outer):
  b∉frs (envOfC qual scope s0.heap.objs.size f cd :: outer):=fun z=>by
 rcases List.mem_cons.mp (I.stkSub b z) with e | e
 ·exact absurd (Heap.lt_size q) (by rw [e];exact Nat.not_lt.mpr I.ok.above)
 ·exact hb e
theorem throw_here {pins:List (Addr×Obj)} {σ:St} {H:Hp} {s:Shared} {h':Heap} {a C:Addr} {args:List Value} (I:Inv (cxOf (CXE P w) P w K mg base N qual scope f cd A outer s0 H0 E) pins σ H s)
  (hx:Heap.MadeExcOf s.heap h' a (.ref C) args) (q:E (.ref C) none H):(cxOf (CXE P w) P w K mg base N qual scope f cd A outer s0 H0 E).xe (.ref a) { s with heap:=h' }:=by
 have hfs:∀b∈frs (envOfC qual scope s0.heap.objs.size f cd :: outer),H b=none:=I.stkFree
 have hin:∀env∈(envOfC qual scope s0.heap.objs.size f cd :: outer),∀b,env.frame=some b->b∈frs (envOfC qual scope s0.heap.objs.size f cd :: outer):=fun env he b hb=>List.mem_filterMap.mpr ⟨env,he,hb⟩
 have hst:s.heap.FunFrames base (envOfC qual scope s0.heap.objs.size f cd :: outer):=I.stack
 have noE:∀b:Addr,b∉(cxOf (CXE P w) P w K mg base N qual scope f cd A outer s0 H0 E).ex:=fun b z=>absurd (show b∈([]:List Addr) from z) (by simp)
 refine wpAny_leaves_madeW (base:=PySem.W.hideAll s.heap (frs (envOfC qual scope s0.heap.objs.size f cd :: outer))) I.ok.frames rfl (fun b o z=>PySem.W.of_hideAll _ z) (PySem.W.funFrames_hide hst hin) hx fun h2 t fl _ _ up=>?_
 refine⟨a,t,C,H,_,rfl,I.os,I.bare,fl,⟨fun b o e n hb=>?_,fun b o e hb=>?_,fun b o e n=>I.base.free b o e n (noE b),I.base.tups,I.base.frzs,I.base.tbls,I.hok.hide hfs⟩,fun b o e hb=>?_,q⟩
 ·exact PySem.W.hideAll_get _ (I.base.keep b o e n hb (noE b)) (nofr0 I e hb)
 ·obtain⟨o',e'⟩:=I.base.there b o e (noE b)
  exact⟨o',PySem.W.hideAll_get _ e' (nofr0 I e hb)⟩
 ·obtain⟨_,o',ho',hd⟩:=I.ok.funs.mem hb
  rw [show (cxOf (CXE P w) P w K mg base N qual scope f cd A outer s0 H0 E).s₀.heap.get? b=some o from e] at ho';cases ho'
  obtain⟨sl,e1⟩:=I.base.slot b o e (I.ok.frf b hb) hb (noE b)
  obtain⟨sl',e2⟩:=up b _ (hx.keeps _ _ e1) hd
  exact⟨sl',e2⟩
theorem passE:Passes (CXE P w) (cxOf (CXE P w) P w K mg base N qual scope f cd A outer s0 H0 E) E:=fun pins σ H s e s' I c=>by
 obtain⟨a,t,C,H',B,rfl,os,bare,fl,G,sl,q⟩:=c
 have noE:∀b:Addr,b∉(cxOf (CXE P w) P w K mg base N qual scope f cd A outer s0 H0 E).ex:=fun b z=>absurd (show b∈([]:List Addr) from z) (by simp)
 refine wpAny_leaves_onW I.ok.frames rfl fl fun h2 fl2 up=>?_
 refine⟨a,t,C,H',B,rfl,os.trans I.os,bare,fl2,⟨fun b o e n hb=>?_,fun b o e hb=>?_,fun b o e n=>?_,fun b xs z=>G.tups b xs (I.base.tups b xs z),fun b o u z=>G.frzs b o u (I.base.frzs b o u z),fun b ps z=>?_,G.hok⟩,fun b o e hb=>?_,q⟩
 ·exact G.keep b o (I.base.keep b o e n hb (noE b)) (I.base.free b o e n (noE b)) (nofr0 I e hb)
 ·obtain⟨o',e'⟩:=I.base.there b o e (noE b)
  exact G.there b o' e' (nofr0 I e hb)
 ·obtain⟨o',e'⟩:=I.base.there b o e (noE b)
  exact G.free b o' e' (I.base.free b o e n (noE b))
 ·obtain⟨m1,e1⟩:=I.base.tbls b ps z
  obtain⟨m2,e2⟩:=G.tbls b _ e1
  exact⟨m1++m2,by rw [e2,Array.append_assoc]⟩
 ·obtain⟨_,o',ho',hd⟩:=I.ok.funs.mem hb
  rw [show (cxOf (CXE P w) P w K mg base N qual scope f cd A outer s0 H0 E).s₀.heap.get? b=some o from e] at ho';cases ho'
  obtain⟨_,e1⟩:=I.base.slot b o e (I.ok.frf b hb) hb (noE b)
  obtain⟨_,e2⟩:=sl b _ e1 (by show b∈frs (envOfC qual scope s0.heap.objs.size f cd :: outer);exact List.mem_cons_of_mem _ hb)
  obtain⟨sl',e3⟩:=up b _ e2 hd
  exact⟨sl',e3⟩
theorem Fun.okE {x:Str} {st:Stmt} {fd:FuncData} {ps:List Str} {k:Nat} {sp:Sp} (F:Fun K x qual st f fd) (S:FnScope N ps (defScope st)) (len:∀vs H Q E,sp vs H Q E->vs.length=ps.length)
  (hbody:∀(cdv:Value) (A:Around) (outer:List Env) (s:Shared) (H:Hp) (vs:List V) (Q:VK) (E:XK),Room k (A.deeper (envOfC qual (defScope st) s.heap.objs.size f cdv))->sp vs H Q E->
   ∃t,PSs (cxOf (CXE P w) P w K mg base N qual (defScope st) f cdv A outer s H E) (defBody st) t∧t { nx:=fun _ H'=>Q .non H',rt:=Q } (start N vs) H):FnOk P w K mg base (CXE P w) (k+1) f fd ps sp:=by
 obtain⟨oc,od,kV,doc,pm,an,cdv,ct,osl,rfl,lk,hcd⟩:=F.ex
 exact fn_of lk hcd S len fun A outer s H vs Q E hr hsp=>hbody cdv A outer s H vs Q E hr hsp
end
theorem PS.nox {X:Cx} {st:Stmt} {t:TS} (h:PS X.nox st t):PS X st t:=fun pins s σ H D I hw=>
 wpAny_mono (h pins s σ H D (I.wish _) hw) (fun _ _ q=>q.unwish) fun _ _ z=>False.elim z
abbrev bmV:List Value:=[.type "ValueError",.type "Exception",.type "BaseException",.type "object"]
theorem exc_obj {K:W.Frag} {C:Addr} (q:PySem.W.excIn K C bmV "ValueError.__new__" = true):∃bm N nm qn bs hd sn sub ab col dd k0 k1 k2 k3 k5,
  K.lookup C=some (excClassObj nm qn C N bs bm hd sn sub ab col dd k0 k1 k2 k3 k5 "ValueError.__new__")∧PySem.W.tailIn K bmV bm=true∧PySem.W.nsOkIn K N=true∧PySem.W.nsIn K N "__init__" = some none:=by
 unfold PySem.W.excIn at q
 split at q
 ·rename_i dd cd sl ho
  split at q
  ·rename_i C1 bm k0 k1 k2 k3 n k5 hm hs
   rw [Bool.and_eq_true,Bool.and_eq_true,Bool.and_eq_true,Bool.and_eq_true,Bool.and_eq_true] at q
   obtain⟨⟨⟨⟨⟨q1,q2⟩,q3⟩,q4⟩,q5⟩,q6⟩:=q
   have r1:=beq_iff_eq.mp q1
   have r2:=beq_iff_eq.mp q2
   have r6:=beq_iff_eq.mp q6
   subst r1 r2
   obtain⟨nm,bs,mro,ns,qn,hd,sn,sub,ab,col,del⟩:=cd
   simp only at hm q3 q5 r6
   have q3':del=false:=by cases del <;> simp at q3 ⊢
   subst hm q3'
   obtain⟨l⟩:=sl
   simp only at hs
   subst hs
   exact⟨bm,ns,nm,qn,bs,hd,sn,sub,ab,col,dd,k0,k1,k2,k3,k5,ho,q4,q5,r6⟩
  ·cases q
 ·cases q
def Throws (X:Cx) (E:XK):Prop:=∀(pins:List (Addr×Obj)) (σ:St) (H:Hp) (s:Shared) (h':Heap) (a C:Addr) (args:List Value),Inv X pins σ H s->Heap.MadeExcOf s.heap h' a (.ref C) args->E (.ref C) none H->X.xe (.ref a) { s with heap:=h' }
theorem throwE {P:Program} {w:World} {K:W.Frag} {mg:Str->Option Value} {base:Heap} {N:List Str} {qual:Str} {scope:Scope} {f:Addr} {cd:Value} {A:Around} {outer:List Env} {s0:Shared} {H0:Hp} {E:XK}:
  Throws (cxOf (CXE P w) P w K mg base N qual scope f cd A outer s0 H0 E) E:=fun _ _ _ _ _ _ _ _ I hx q=>throw_here I hx q
def tRaise (C:Addr) (ta:TA) (E:XK):TS:=fun _ σ H=>ta σ H fun vs H1=>vs.length<=sizeLine∧E (.ref C) none H1
theorem a_raise {C:Addr} {ta:TA} {E:XK} {D:Ends} {σ:St} {H:Hp}:tRaise C ta E D σ H=ta σ H fun vs H1=>vs.length<=sizeLine∧E (.ref C) none H1:=rfl
theorem ps_raise {X:Cx} {E:XK} {x:Str} {C:Addr} {e0:Expr} {ta:TA} {np cpos pos:Pos} (hc:X.calm=true) (hr:Throws X E) (hg:Gl X x) (hm:X.mg x=some (.ref C)) (hx:PySem.W.excIn X.K C bmV "ValueError.__new__" = true) (ha:PA X [e0] ta)
  (he:starEach [e0] X.env=[(false,eval e0 X.env)]:=by rfl) (hpl:(backTo cpos (starEach [e0] X.env)).any (·.1)=false:=by rfl) (hd:(x == ("__debug__" : Str))=false:=by decide):
  PS X (.Raise (some (.Call (.Name x np) [e0] [] cpos)) none pos) (tRaise C ta E):=by
 intro pins s σ H D I h
 obtain⟨bm,N,nm,qn,bs,hdc,sn,sub,ab,col,dd,k0,k1,k2,k3,k5,lk,tl,ok,ni⟩:=exc_obj hx
 have T0:OwnTail s.heap bmV bm:=PySem.W.tail_of_in I.kIn tl
 refine wpAny_Raise_call_subT (C:=C) (nm:=nm) (q:=qn) (N:=N) (bs:=bs) (bm:=bm) (hdct:=hdc) (sn:=sn) (sub:=sub) (ab:=ab) (col:=col) (dd:=dd) (k0:=k0) (k1:=k1) (k2:=k2) (k3:=k3) (k5:=k5)
  PySem.F.excBase_ValueError (mN:=s.heap.nsMap N) (T0.hasType PySem.F.excBase_ValueError.hasBase) (I.ok.hd hc) hpl (PySem.W.nsMap_none_of_in I.kIn ok ni) (ld_glob I hg hm ⟨rfl,?_⟩ hd)
 have ns0:s.heap.Ns N (s.heap.nsMap N):=.of_isNs (PySem.W.isNs_of_in I.kIn ok)
 have h2:=ha cpos pins s σ H _ I h
 rw [he] at h2 ⊢
 refine Calls.evalArgs_plain (wpAny_mono h2 (fun vs s2 z=>?_) fun _ _ y=>y)
 obtain⟨xs,H1,I1,r1,q1,q2⟩:=z
 have eN:s.heap.nsMap N=s2.heap.nsMap N:=by
  obtain⟨o,es,ep,ho,hdt,_⟩:=id ns0
  unfold PySem.W.nsOkIn at ok
  split at ok
  ·rename_i z
   unfold Heap.nsMap
   rw [I.kIn _ _ z,I1.kIn _ _ z]
  ·cases ok
 refine⟨rfl,by rw [← r1.length];exact q1,I1.kIn _ _ lk,?_,PySem.W.tail_of_in I1.kIn tl,fun h' a hm'=>hr pins σ H1 s2 h' a C vs I1 hm' q2⟩
 rw [eN];exact .of_isNs (PySem.W.isNs_of_in I1.kIn ok)
def IsExc (a C:Addr):HO:=.ext fun h=>∃oe vs,h.get? a=some oe∧oe.cls=.ref C∧oe.data=.fields vs
abbrev Cx.hdl (X:Cx) (a:Addr):Cx:={ X with A:=X.A.mark (some (.ref a)),calm:=false,xe:=fun _ _=>False }
section
variable {X:Cx} {pins:List (Addr×Obj)} {σ:St} {H H':Hp} {s:Shared} {a:Addr}
theorem Inv.hdl (I:Inv X pins σ H s) (a:Addr):Inv (X.hdl a) pins σ H s:=
 ⟨⟨I.ok.mod,I.ok.kind,I.ok.glob,I.ok.blt,I.ok.above,I.ok.inj,I.ok.has,I.ok.cab,(fun z=>nomatch z),I.ok.frames,I.ok.stk,I.ok.exf,I.ok.bs,I.ok.bsz,I.ok.noex,I.ok.exfs,I.ok.funs,I.ok.frf⟩,I.os,I.bare,I.base,I.loc,I.cell,I.free,I.freeC,I.pin,I.hok,I.len⟩
theorem Inv.unhdl (I:Inv (X.hdl a) pins σ H s) (ok:X.Ok):Inv X pins σ H s:=⟨ok,I.os,I.bare,I.base,I.loc,I.cell,I.free,I.freeC,I.pin,I.hok,I.len⟩
end
theorem exc_mro {K:W.Frag} {C:Addr} {b:Value} {r:Bool} {nm q:Str} {N:Addr} {bs bm:List Value} {hd:Bool} {sn:List Str} {sub:List Value} {ab:Bool} {col:Option Bool} {dd:Option Addr} {k0 k1 k2 k3 k5:Option Value} {nid:String}
  (lk:K.lookup C=some (excClassObj nm q C N bs bm hd sn sub ab col dd k0 k1 k2 k3 k5 nid)) (e:PySem.W.mroIn K C b=some r):(Value.ref C :: bm).contains b=r:=by
 obtain⟨cd,a,e2⟩:=Option.bind_eq_some_iff.mp e
 unfold PySem.W.clsIn at a
 rw [lk] at a
 simp only [excClassObj,Option.some.injEq] at a
 subst a
 simpa using e2
theorem matches_up {M:Model} {A:Around} {E:Value->Shared->Prop} {Q:Bool->Shared->Prop} {h:Heap} {g:Array GenState} {d:Drawn} {t:Nat} {os:OsState} {a C D:Addr} {oe:Obj}
  {nm q:Str} {N:Addr} {bs bm:List Value} {hd:Bool} {sn:List Str} {sub:List Value} {ab:Bool} {col:Option Bool} {dd:Option Addr} {k0 k1 k2 k3 k5:Option Value} {nid:String}
  {nm' q':Str} {N':Addr} {bs' bm':List Value} {hd':Bool} {sn':List Str} {sub':List Value} {ab':Bool} {col':Option Bool} {dd':Option Addr} {k0' k1' k2' k3' k5':Option Value} {nid':String}
  (hC:h.get? C=some (excClassObj nm q C N bs bm hd sn sub ab col dd k0 k1 k2 k3 k5 nid)) (hD:h.get? D=some (excClassObj nm' q' D N' bs' bm' hd' sn' sub' ab' col' dd' k0' k1' k2' k3' k5' nid'))
  (ha:h.get? a=some oe) (hcls:oe.cls=.ref C) (hb:(Value.ref D :: bm').contains (.type "BaseException")=true) (hs:(Value.ref C :: bm).contains (.ref D)=true) (hq:Q true ⟨h,g,d,t,os⟩):
  wpAny M A (excMatches (.ref a) (.ref D)) Q E ⟨h,g,d,t,os⟩:=by
 have f:=tc_notTuple
 unfold excMatches
 repeat (first | (with_reducible refine wpAny_loadPart_at ha ?_;rw [hcls]) | with_reducible refine wpAny_loadPart_at hD ?_ | (with_reducible refine wpAny_isSubtype_exc hD ?_;rw [hb]) | (with_reducible refine wpAny_isSubtype_exc hC ?_;rw [hs]) | wp_step)
 exact hq
structure Catches (K:W.Frag) (C D:Addr):Prop where
 c:PySem.W.excIn K C bmV "ValueError.__new__" = true
 d:PySem.W.excIn K D bmV "ValueError.__new__" = true
 base:PySem.W.mroIn K D (.type "BaseException")=some true
 sub:PySem.W.mroIn K C (.ref D)=some true
theorem matches_ok {K:W.Frag} {C D a:Addr} {oe:Obj} {M:Model} {A:Around} {E:Value->Shared->Prop} {Q:Bool->Shared->Prop} {s:Shared} (k:Catches K C D) (X:K.In s.heap) (ha:s.heap.get? a=some oe) (hcls:oe.cls=.ref C) (hq:Q true s):
  wpAny M A (excMatches (.ref a) (.ref D)) Q E s:=by
 obtain⟨bm,N,nm,qn,bs,hdc,sn,sub,ab,col,dd,k0,k1,k2,k3,k5,lk,_⟩:=exc_obj k.c
 obtain⟨bm',N',nm',qn',bs',hdc',sn',sub',ab',col',dd',k0',k1',k2',k3',k5',lk',_⟩:=exc_obj k.d
 obtain⟨h,g,d,t,os⟩:=s
 exact matches_up (X _ _ lk) (X _ _ lk') ha hcls (exc_mro lk' k.base) (exc_mro lk k.sub) hq
section
variable {X:Cx} {pins:List (Addr×Obj)} {σ:St} {H H':Hp} {s s2:Shared} {a t C:Addr} {B:Heap}
theorem exc_new (I:Inv X pins σ H s) (fl:Heap.FlyingW B X.stack a (.ref C) (.ref t) s2.heap) (G:Grd X.prog X.w (frs X.stack) H H' s.heap B) (sl:Slt (frs X.stack) s.heap s2.heap):s.heap.get? a=none∧H' a=none:=by
 constructor
 ·cases q:s.heap.get? a with
  | none=>rfl
  | some o=>
   by_cases hb:a∈frs X.stack
   ·obtain⟨_,o',ho',hd⟩:=I.stack.mem hb
    rw [q] at ho';cases ho'
    obtain⟨sl',e⟩:=sl a o q hb
    obtain⟨oe,vs,he,_,hdd,_⟩:=fl.first
    rw [e] at he;cases he
    exact absurd hdd (hd vs)
   ·obtain⟨o',e⟩:=G.there a o q hb
    rw [fl.2.1] at e;cases e
 ·cases q:H' a with
  | none=>rfl
  | some u=>
   obtain⟨ob,e⟩:=(G.hok a u q).ex
   rw [fl.2.1] at e;cases e
theorem landed {s3:Shared} (I:Inv X pins σ H s) (os:s3.os=s.os) (bare:AllBare s3.gens) (fl:Heap.FlyingW B X.stack a (.ref C) (.ref t) s3.heap) (G:Grd X.prog X.w (frs X.stack) H H' s.heap B) (sl:Slt (frs X.stack) s.heap s3.heap):
  Inv X pins σ (upd H' a (IsExc a C)) s3:=by
 obtain⟨n1,n2⟩:=exc_new I fl G sl
 have u:=G.un fl.1 sl
 have ne:∀b o,s.heap.get? b=some o->b≠a:=fun b o q z=>by rw [z,n1] at q;cases q
 have neH:∀b o,H' b=some o->b≠a:=fun b o q z=>by rw [z,n2] at q;cases q
 have neH0:∀b o,H b=some o->b≠a:=fun b o q=>by
  obtain⟨ob,e⟩:=(I.hok b o q).ex
  exact ne b ob e
 refine I.call' (ch:=[]) os ⟨u.keep,u.slot,fun b o q n hx=>by rw [upd_ne (ne b o q)];exact u.free b o q n hx,u.there,fun b xs q=>by rw [upd_ne (neH0 b _ q)];exact u.tups b xs q,fun b o w q=>by rw [upd_ne (neH0 b _ q)];exact u.frzs b o w q,fun b ps q=>by rw [upd_ne (neH0 b _ q)];exact u.tbls b ps q⟩ (fun b w e=>?_) bare (fun _ z=>nomatch z)
 by_cases hb:b=a
 ·subst hb
  rw [upd_same] at e;cases e
  obtain⟨oe,vs,h1,h2,h3,_⟩:=fl.first
  exact⟨⟨oe,vs,h1,h2,h3⟩,⟨oe,h1⟩,fun h1 h2 ⟨o1,w1,p,q,r⟩ k=>⟨o1,w1,k _ p,q,r⟩⟩
 ·rw [upd_ne hb] at e
  exact (G.hok b w e).stay (fun c v _ q=>fl.1 c v q) (fun c q=>by rw [upd_ne (neH c _ q)];exact q) fun c xs q=>by rw [upd_ne (neH c _ q)];exact q
end
def PXE (X:Cx) (e:Expr) (t:XK->TE):Prop:=∀(pins:List (Addr×Obj)) (s:Shared) (σ:St) (H:Hp) (Q:VK) (E:XK),Inv X pins σ H s->t E σ H Q->
 wpAny (model X.prog X.w) X.A (eval e X.env) (EP X pins σ Q) (fun x s'=>∃H1 s1,Inv X pins σ H1 s1∧CXE X.prog X.w X.stack H1 s1 E x s') s
def PX (X:Cx) (st:Stmt) (t:XK->TS):Prop:=∀(pins:List (Addr×Obj)) (s:Shared) (σ:St) (H:Hp) (D:Ends) (E:XK),Inv X pins σ H s->t E D σ H->
 wpAny (model X.prog X.w) X.A (exec st X.env) (SP X pins D) (fun x s'=>∃H1 s1,Inv X pins σ H1 s1∧CXE X.prog X.w X.stack H1 s1 E x s') s
section
variable {X:Cx} {k:Nat} {f:Addr} {fd:FuncData} {ps:List Str} {sp:Sp} {x:Str} {p pos:Pos} {e:Expr} {es:List Expr} {t:TA}
theorem px_call (F:FnOk X.prog X.w X.K X.mg X.base (CXE X.prog X.w) k f fd ps sp) (hr:Room k X.A) (hg:Gl X x) (hm:X.mg x=some (.ref f)) (hk:PySem.W.keepIn X.K (.ref f)=true) (hb:Binds X.K fd ps []) (ha:PA X.nox (e :: es) t)
  (hdb:(x == ("__debug__" : Str))=false:=by decide) (he:starEach (e :: es) X.env=(false,eval e X.env) :: starEach es X.env:=by rfl) (hpl:(backTo pos (starEach es X.env)).any (·.1)=false:=by rfl):
  PXE X (.Call (.Name x p) (e :: es) [] pos) (fun E=>tCall sp [] E t):=by
 intro pins s σ H Q E I h
 refine wpAny_Call_Name_kw (ld_glob I hg hm ?_ hdb)
 refine PySem.W.callWith_K (h₀:=X.base) I.ok.mod.kin hk (wpAny_mono (ha pos pins s σ H _ (I.wish _) h) (fun us s1 ⟨vs,H1,I1,r,q⟩=>⟨I1.kIn,?_⟩) fun _ _ z=>False.elim z) he hpl
 have I2:Inv X pins σ H1 s1:=I1.unwish
 have r2:Vals (vs++[]) (us++[]):=r.append .nil
 have hl:(us++[]).length=ps.length:=by rw [← r2.length];exact F.len _ _ _ _ q
 refine wpAny_call (codeAny_mono (F.run X.A X.stack s1 H1 ⟨us,[]⟩ (us++[]) (vs++[]) Q E hr I2.env0 (hb s1 us I2.kIn hl) r2 q) fun r s' hq=>?_)
 cases r with
 | error x=>exact⟨H1,s1,I2,hq⟩
 | ok fl=>
  cases fl with
  | ret u=>exact I2.after hq
  | next=>exact False.elim hq
  | brk=>exact False.elim hq
  | cont=>exact False.elim hq
theorem px_set {te:XK->TE} {i:Nat} {y:Str} {pos':Pos} (hN:X.N.Nodup) (hi:X.N[i]?=some y) (hy:Loc X.env.scope y) (he:PXE X e te) (hs:swapsWith e (some (.Name y pos')) pos.line X.env=pure false:=by rfl) (hf:X.fn y=true∨X.env.scope.names.lookup y=some .local:=by first | exact .inl rfl | exact .inr rfl | assumption):
  PX X (.Assign [.Name y pos'] e pos) (fun E=>tAsg (te E) (gName i)):=by
 intro pins s σ H D E I h
 refine wpAny_Assign_Name (thn (he pins s σ H _ E I h) fun v s1 ⟨z,H1,I1,r1,q1⟩=>?_) hs
 exact store_ok I1 hN hi hy r1 (fun s2 I2=>⟨_,H1,I2,q1⟩) hf
end
def tTry (K:W.Frag) (Dc:Addr) (t:XK->TS) (th:TS):TS:=fun D σ H=>t (fun c _ H1=>∃C,c=.ref C∧Catches K C Dc∧∀a,H1 a=none->th D σ (upd H1 a (IsExc a C))) D σ H
theorem a_try {K:W.Frag} {Dc:Addr} {t:XK->TS} {th:TS} {D:Ends} {σ:St} {H:Hp}:tTry K Dc t th D σ H=t (fun c _ H1=>∃C,c=.ref C∧Catches K C Dc∧∀a,H1 a=none->th D σ (upd H1 a (IsExc a C))) D σ H:=rfl
section
variable {X:Cx} {st b0:Stmt} {suite:List Stmt} {t:XK->TS} {th:TS} {x n:Str} {Dc:Addr} {np hpos pos:Pos}
end
theorem gone {X:Cx} {pins:List (Addr×Obj)} {σ:St} {H:Hp} {s:Shared} {M:Model} {A:Around} {E:Value->Shared->Prop} {i:Nat} {n:Str} {pos:Pos} {Q:Unit->Shared->Prop} (I:Inv X pins σ H s) (hN:X.N.Nodup) (hi:X.N[i]?=some n)
  (hl:X.env.scope.names.lookup n=some .local) (h:∀s',Inv X pins (σ.set i none) H s'->Q () s'):wpAny M A (do bindName X.env n .none;unbindBehindTheSuite X.env n pos) Q E s:=by
 obtain⟨m,hn,hlk⟩:=id I.loc
 have hp:(X.env.scope.kind == .class || (X.env.scope.kind == .module && X.env.locals != X.env.globals))=false:=by rw [I.ok.kind];rfl
 refine wpAny_nameGoes_keeps hl hn hp fun h' v hn' hs=>h _ ?_
 have cne:=I.cne
 have low:∀b o,X.s₀.heap.get? b=some o->b≠X.env.locals:=fun b o e=>Nat.ne_of_lt (Nat.lt_of_lt_of_le (Heap.lt_size e) I.ok.above)
 have tracked:HOk X.prog X.w H h':=fun b ob e=>by
  refine (I.hok b ob e).stay (fun c w' hc q=>(hs.2 c ?_).trans q) (fun _ q=>q) fun _ _ q=>q
  intro z
  have fr:=I.free
  rcases hc with hc | hc
  ·rw [← hc,z,fr] at e;cases e
  ·rw [z,fr] at hc;cases hc
 refine⟨I.ok,I.os,I.bare,⟨fun b o e n hb hx=>?_,fun b o e n hb hx=>?_,I.base.free,fun b o e hx=>?_,I.base.tups,I.base.frzs,I.base.tbls⟩,⟨_,hn',fun j y v' e1 e2 e3=>?_⟩,fun y c e=>?_,I.free,I.freeC,fun p hp=>?_,tracked,by rw [List.length_set];exact I.len⟩
 ·exact (hs.2 b (low b o e)).trans (I.base.keep b o e n hb hx)
 ·obtain⟨sl,e1⟩:=I.base.slot b o e n hb hx
  exact⟨sl,(hs.2 b (low b o e)).trans e1⟩
 ·obtain⟨o',e1⟩:=I.base.there b o e hx
  exact⟨o',(hs.2 b (low b o e)).trans e1⟩
 ·have hij:j≠i:=fun z=>by
   subst z
   rw [List.getElem?_set] at e2
   simp only [if_true] at e2
   split at e2 <;> cases e2
  rw [List.getElem?_set_ne (Ne.symm hij)] at e2
  have hyn:y≠n:=fun z=>hij (nodup_ix hN e1 (by rw [z];exact hi))
  obtain⟨u,r,q⟩:=hlk j y v' e1 e2 e3
  refine⟨u,r,?_⟩
  rcases q with ⟨k,e⟩ | ⟨k,c,e,z⟩
  ·exact .inl ⟨k,by show (if y=n then v else m y)=some u;rw [if_neg hyn];exact e⟩
  ·exact .inr ⟨k,c,e,z.sameBut hs (cne _ c e)⟩
 ·obtain⟨w',z⟩:=I.cell y c e
  exact⟨w',z.sameBut hs (cne y c e)⟩
 ·obtain⟨e,n,ne,nf,d⟩:=I.pin p hp
  exact⟨(hs.2 p.1 ne).trans e,n,ne,nf,d⟩
def Ends.drop (D:Ends) (i:Nat):Ends:={ nx:=fun σ H=>D.nx (σ.set i none) H,rt:=D.rt,bk:=fun σ H=>D.bk (σ.set i none) H,ct:=fun σ H=>D.ct (σ.set i none) H }
def tTryAs (K:W.Frag) (Dc:Addr) (i:Nat) (t:XK->TS) (th:TS):TS:=fun D σ H=>t (fun c _ H1=>∃C,c=.ref C∧Catches K C Dc∧∀a,H1 a=none->th (D.drop i) (σ.set i (some (.ref a))) (upd H1 a (IsExc a C))) D σ H
theorem a_tryAs {K:W.Frag} {Dc:Addr} {i:Nat} {t:XK->TS} {th:TS} {D:Ends} {σ:St} {H:Hp}:tTryAs K Dc i t th D σ H=t (fun c _ H1=>∃C,c=.ref C∧Catches K C Dc∧∀a,H1 a=none->th (D.drop i) (σ.set i (some (.ref a))) (upd H1 a (IsExc a C))) D σ H:=rfl
theorem a_drop_nx {D:Ends} {i:Nat} {σ:St} {H:Hp}:(D.drop i).nx σ H=D.nx (σ.set i none) H:=rfl
section
variable {X:Cx} {st b0:Stmt} {suite:List Stmt} {t:XK->TS} {th:TS} {x n:Str} {Dc:Addr} {np hpos pos:Pos} {i:Nat}
theorem ps_tryAs (T1:Top1 X) (h1:PX X st t) (hg:Gl X x) (hm:X.mg x=some (.ref Dc)) (hN:X.N.Nodup) (hi:X.N[i]?=some n) (hl:X.env.scope.names.lookup n=some .local) (hs:∀a,PSs (X.hdl a) (b0 :: suite) th) (hd:(x == ("__debug__" : Str))=false:=by decide):
  PS X (.Try [st] [.ExceptHandler (some (.Name x np)) (some n) (b0 :: suite) hpos] [] [] pos) (tTryAs X.K Dc i t th):=by
 intro pins s σ H D I h
 have hfr:X.A.frames=some (X.env :: X.outer):=by rw [I.ok.frames,T1.st]
 refine wpAny_Try_except (wpAny_mono (wpAny_execs_cons (thn (h1 pins s σ H D _ I h) fun f s1 q=>?_)) (fun _ _ y=>y) fun e s2 q=>?_)
 ·cases f with
  | next=>exact wpAny_execs_nil (wpAny_execs_nil q)
  | ret v=>exact q
  | brk=>exact q
  | cont=>exact q
 ·obtain⟨H1,s1,I1,a,tt,C,H',B,rfl,os,bare,fl,G,sl,Cc,eC,kc,qh⟩:=q
  cases eC
  have fl0:Heap.FlyingW B (X.env :: X.outer) a (.ref C) (.ref tt) s2.heap:=by rw [← T1.st];exact fl
  refine wpAny_looks_onW hfr T1.fr fl0 fun h4 held4 up4=>?_
  refine wpAny_landsW held4 fun h5 fl5 up5=>?_
  have sl5:=(sl.up I1 up4).up I1 up5
  have fl5':Heap.FlyingW B X.stack a (.ref C) (.ref tt) h5:=by rw [T1.st];exact fl5
  have J5:Inv X pins σ (upd H' a (IsExc a C)) { s2 with heap:=h5 }:=landed (s3:={ s2 with heap:=h5 }) I1 os bare fl5' G sl5
  refine wpAny_handleBy_cons (codeAny_handlers_test (ld_glob (X:=X.hdl a) (J5.hdl a) hg hm ?_ hd)) (by intro q;cases q)
  obtain⟨oe,vs,ho,hoc,_⟩:=fl5.first
  refine matches_ok kc J5.kIn ho hoc ?_
  refine codeAny_handlers_suite_as (lands_againW fl5 fun h6 fl6 up6=>?_)
  have fl6':Heap.FlyingW B X.stack a (.ref C) (.ref tt) h6:=by rw [T1.st];exact fl6
  have J6:Inv X pins σ (upd H' a (IsExc a C)) { s2 with heap:=h6 }:=landed (s3:={ s2 with heap:=h6 }) I1 os bare fl6' G (sl5.up I1 up6)
  refine store_ok (X:=X.hdl a) (J6.hdl a) hN hi (.inl hl) (v:=.ref a) rfl (fun s7 J7=>?_) (.inr hl)
  refine wpAny_mono (hs a pins s7 _ _ (D.drop i) J7 (qh a (exc_new I1 fl G sl).2)) (fun f s8 z=>?_) fun _ _ z=>False.elim z
  cases f with
  | next=>obtain⟨σ',H3,I3,q⟩:=z;exact gone (I3.unhdl I.ok) hN hi hl fun s9 I9=>⟨_,H3,I9,q⟩
  | brk=>obtain⟨σ',H3,I3,q⟩:=z;exact gone (I3.unhdl I.ok) hN hi hl fun s9 I9=>⟨_,H3,I9,q⟩
  | cont=>obtain⟨σ',H3,I3,q⟩:=z;exact gone (I3.unhdl I.ok) hN hi hl fun s9 I9=>⟨_,H3,I9,q⟩
  | ret u=>obtain⟨v,σ',H3,I3,r,q⟩:=z;exact gone (I3.unhdl I.ok) hN hi hl fun s9 I9=>⟨v,_,H3,I9,r,q⟩
end
open PySem PySem.Spec PySem.W PyProof.Rows Builtin Builtin.ObjectAttr Builtin.Getset_descriptor
def ExAt (x C:Addr) (h:Heap):Prop:=∃o vs,h.get? x=some o∧o.cls=.ref C∧o.data=.fields vs
theorem exAt_ty {x C:Addr} (M:Model) (h:Heap) (p:ExAt x C h):Looks M h (typeOf (.ref x)) (.ref C):=by
 obtain⟨o,vs,h1,h2,_⟩:=p
 exact h2 ▸ (Looks.ld h1).andThen .now
structure ExCls (K:W.Frag) (C:Addr):Prop where
 x:excIn K C bmV "ValueError.__new__" = true
 ga:findIn K (.ref C) "__getattribute__" = some (some (.builtin "BaseException.__getattribute__"))
 gn:findIn K (.ref C) "__getattr__" = some none
 cl:findIn K (.ref C) "__class__" = some (some (.builtin "object.__class__"))
 ob:mroIn K C (.type "object")=some true
 be:mroIn K C (.type "BaseException")=some true
 dg:specialIn K (.builtin "object.__class__") "__get__" = some (some (.builtin "getset_descriptor.__get__"))
 dt:takesIn K (.builtin "object.__class__")=some true
section
variable {prog:Program} {w:World} {A:Around} {E:Value->Shared->Prop} {s:Shared} {K:W.Frag} {x C:Addr}
theorem exc_class_get {tp:Value} {R:Result->Shared->Prop} (X:K.In s.heap) (p:ExAt x C s.heap) (hm:mroIn K C (.type "object")=some true) (h:R (.ok (.ret (.ref C))) s):
  codeAny (model prog w) A (.call (.builtin "getset_descriptor.__get__") ⟨[.builtin "object.__class__",.ref x,tp],[]⟩) R s:=by
 obtain⟨h0,g0,d0,t0,o0⟩:=s
 have L0:=exAt_ty (model prog w) h0 p;have L1:=looks_mroIn (M:=model prog w) X hm
 refine codeAny_call_builtin KF.slot_gs.plain KF.entry_gs (KF.slot_gs.check _ _ _ _ _ _ _ _ KF.type_class (KF.args_gs _ _ _) ?_);unfold Builtin.«getset_descriptor.__get__» descrGet;rw [dga_obj]
 refine wpAny_bind (wpAny_pure ?_);unfold descrGetter descrCheckInstance descrNameAndClass isInstance;simp only [KF.owner_class];repeat lk
 refine⟨Code.quiet_builtin _ (by decide +kernel),codeAny_builtin KF.entry_class ?_⟩;unfold Builtin.«object.__class__» shownTypeOf;repeat lk
 exact h
theorem exc_check {nameV:Value} {M:Model} {Q:Unit->Shared->Prop} (X:K.In s.heap) (p:ExAt x C s.heap) (hm:mroIn K C (.type "BaseException")=some true) (hq:Q () s):
  wpAny M A (checkBuiltinCall "BaseException.__getattribute__" ⟨[.ref x,nameV],[]⟩) Q E s:=by
 have e1:builtinKind "BaseException.__getattribute__" = some .slot:=by decide +kernel
 have e2:splitId "BaseException.__getattribute__" = some ("BaseException","__getattribute__"):=by decide +kernel
 have e3:=PySem.F.args_bexc_ga (.ref x) nameV
 obtain⟨h0,g0,d0,t0,o0⟩:=s
 have L0:=exAt_ty M h0 p;have L1:=looks_mroIn (M:=M) X hm
 simp only [checkBuiltinCall,e1,e2];refine wpAny_bind ?_;unfold isInstance
 repeat (first | lk | wp_step)
 exact hq
theorem exc_find {M:Model} (X:K.In s.heap) (k:ExCls K C):Looks M s.heap (find (.ref x) (.ref C) "__class__") (.bind (.builtin "getset_descriptor.__get__") (.builtin "object.__class__")):=by
 have L1:=looks_findIn (M:=M) X k.cl
 have L2:=looks_specialIn (M:=M) X k.dg
 have L3:=looks_takesIn (M:=M) X k.dt
 exact L1.andThen ((show Looks M s.heap (getOf (some (.builtin "object.__class__"))) (some (.builtin "getset_descriptor.__get__")) from L2).andThen ((show Looks M s.heap (dataDescriptor? (some (.builtin "object.__class__")) (some (.builtin "getset_descriptor.__get__"))) (some (.builtin "getset_descriptor.__get__",.builtin "object.__class__")) from L3.andThen .now).andThen (Looks.tag .now)))
theorem exc_class_attr {Q:Option Value->Shared->Prop} (X:K.In s.heap) (p:ExAt x C s.heap) (k:ExCls K C) (h:Q (some (.ref C)) { s with toks:=s.toks+1 }):
  wpAny (model prog w) A (getAttr? (.ref x) "__class__") Q E s:=by
 have L0:=exAt_ty (model prog w) s.heap p
 have L1:=looks_findIn (M:=model prog w) X k.ga
 have L2:=looks_findIn (M:=model prog w) X k.gn
 have L3:=exc_find (M:=model prog w) (x:=x) X k
 obtain⟨h0,g0,d0,t0,o0⟩:=s
 unfold getAttr? getAttrBy? getAttrBy
 refine wpAny_bind (wpAny_mkText (wpAny_bind (wpAny_attempt (wpAny_holding (wpAny_bind (L0.at (wpAny_bind (L1.at ?_))))))))
 dsimp only
 rw [if_neg (by rw [show (Value.builtin "BaseException.__getattribute__" == Value.builtin "object.__getattribute__")=false by decide +kernel,Bool.and_false];decide)]
 unfold getAttrByItsOwn hookBefore
 refine wpAny_bind ?_
 rw [if_pos (show onTheHeap (Value.ref C)=true from rfl)]
 refine L2.at ?_
 refine wpAny_bind (wpAny_attempt (wpAny_holding ?_))
 unfold callGetattribute boundAndCalled
 rw [if_neg (by decide)]
 refine wpAny_bind (wpAny_of_eq (PySem.F.attr_ValueError.ga.bind (.ref x)) ?_)
 refine wpAny_call (codeAny_call_builtin PySem.F.attr_ValueError.ga.plain PySem.F.entry_bexc_ga (exc_check (s:=⟨h0,g0,d0,t0+1,o0⟩) X p k.be ?_))
 unfold Builtin.«object.__getattribute__»
 iterate 23 (first | lk | wp_step)
 refine wpAny_call (exc_class_get (s:=⟨h0,g0,d0,t0+1,o0⟩) X p k.ob ?_)
 exact wpAny_pure (handed_on rfl (wpAny_pure h))
theorem kitx_exc (k:ExCls K C):KitX K (.ref x) (.ref C) (ExAt x C) where
 ty:=fun M h _ p=>exAt_ty M h p
 it:=fun _ h X _=>by
  obtain⟨_,_,_,_,_,_,_,_,_,_,_,_,_,_,_,_,lk,_⟩:=exc_obj k.x
  intro A' Q' E' s' kk q
  unfold isType loadHead
  exact wpAny_bind (wpAny_loadPart (kk _ _ (X _ _ lk)) (wpAny_pure q))
 ne:=fun h tp dd its n sl X htp=>by
  obtain⟨_,_,_,_,_,_,_,_,_,_,_,_,_,_,_,_,lk,_⟩:=exc_obj k.x
  refine Bool.eq_false_iff.mpr fun q=>?_
  have e:C=tp:=Value.ref.inj (beq_iff_eq.mp q)
  subst e
  have z:=congrArg (fun o:Option Obj=>o.map (·.cls)) ((X _ _ lk).symm.trans htp)
  simp [excClassObj] at z
 ca:=fun X p h=>exc_class_attr X p k h
end
theorem call_isinstE {X:Cx}:CallR X (.builtin "isinstance") (fun xs H Q=>∃a C D vD b,xs=[.ref a,vD]∧RelV vD D∧H a=some (IsExc a C)∧ExCls X.K C∧kitOne X.K (.ref C) D=some b∧Q (.bl b) H):=by
 intro pins s σ H xs us Q I rv h
 obtain⟨a,C,D,vD,b,rfl,rD,hE,kC,e,q⟩:=h
 cases rv with
 | cons r rr=>
  cases rr with
  | cons r' rr=>
   cases rr
   cases (show _=Value.ref a from r)
   rename_i u
   have eD:D=u:=by
    cases vD with
    | ref d=>exact (show D=Value.ref d from rD).trans (show _=Value.ref d from r').symm
    | ty n=>exact (show D=Value.type n from rD).trans (show _=Value.type n from r').symm
    | non=>exact (show D=Value.none from rD).trans (show _=Value.none from r').symm
    | bl z=>exact (show D=Value.bool z from rD).trans (show _=Value.bool z from r').symm
    | int i=>obtain⟨t,z⟩:=rD;rw [z] at e;simp [kitOne,kitCls] at e
    | str i=>obtain⟨t,z⟩:=rD;rw [z] at e;simp [kitOne,kitCls] at e
    | byt i=>obtain⟨t,z⟩:=rD;rw [z] at e;simp [kitOne,kitCls] at e
    | flt i=>obtain⟨t,z⟩:=rD;rw [z] at e;simp [kitOne,kitCls] at e
   rw [← eD]
   obtain⟨p,_,_⟩:=(show ObjOk X.prog X.w H s.heap a (IsExc a C) from I.hok a _ hE)
   exact kia_one (kitx_exc kC) I.kIn p e (fun z=>nomatch z) fun tk=>⟨.bl b,H,I.tok _,rfl,q⟩
section
variable {X:Cx} {e st:Expr} {te:TE} {lo hi:Option Expr} {tl th ts:TO} {pos p2:Pos}
end
theorem compLoop_if {prog:Program} {w:World} {A:Around} {R:Result->Shared->Prop} {s:Shared} {elt target iter cnd:Expr} {scope:Scope} {pos:Pos} {it acc:Value} {env:Env} (I:Nat->Shared->Prop)
  (turn:∀n s (E:Value->Shared->Prop),I n s->wpAny (model prog w) A (pyNext it) (fun r s₁=>match r with
   | none=>R (.ok .next) s₁
   | some v=>wpAny (model prog w) A (letOwnedTupleGo target it v) (fun _ s₂=>wpAny (model prog w) A (assign target env v) (fun _ s₃=>wpAny (model prog w) A (isTrue cnd env (eval cnd env)) (fun b s₄=>if b=true then wpAny (model prog w) A (eval elt env) (fun x s₅=>
     wpAny (model prog w) A (call (.builtin "list.append") [acc,x]) (fun _ s₆=>∃m,m < n∧I m s₆) E s₅) E s₄ else ∃m,m < n∧I m s₄) E s₃) E s₂) E s₁) E s)
  (n:Nat) (h:I n s):
  codeAny (model prog w) A (.compLoop (.ListComp elt [⟨target,iter,[cnd],0⟩] scope pos) 0 it acc env) R s:=by
 refine codeAny_loop rfl I (fun n s hI=>?_) n h
 show wpAny _ _ ((compTurn (.ListComp elt [⟨target,iter,[cnd],0⟩] scope pos) 0 it acc env).onRaise (fun x=>do noteFrame x env;theTreesLotGoes x)) _ _ s
 refine wpAny_noted ?_
 unfold compTurn
 dsimp only [List.getElem?_cons_zero]
 refine wpAny_bind (wpAny_standAt (wpAny_bind (wpAny_mono (turn n s _ hI) (fun r s₁ h₁=>?_) fun _ _ h'=>h')))
 cases r with
 | none=>exact wpAny_pure h₁
 | some v=>
  refine wpAny_bind (thn h₁ fun _ s₂ h₂=>wpAny_bind (thn h₂ fun _ s₃ h₃=>wpAny_bind ?_))
  rw [List.forIn_cons,if_pos rfl]
  refine wpAny_bind (wpAny_bind (thn h₃ fun b s₄ h₄=>wpAny_pure ?_))
  dsimp only
  rw [List.forIn_nil]
  refine wpAny_pure ?_
  cases b with
  | true=>
   rw [if_pos rfl] at h₄ ⊢
   exact wpAny_bind (wpAny_bind (thn h₄ fun x s₅ h₅=>wpAny_bind (thn h₅ fun _ s₆ h₆=>wpAny_pure (wpAny_pure ⟨rfl,h₆⟩))))
  | false=>
   rw [if_neg (by decide)] at h₄ ⊢
   exact wpAny_pure ⟨rfl,h₄⟩
section
variable {X:Cx} {elt iter cnd:Expr} {x:Str} {px:Pos} {fv:List (Nat×Str)} {scope:Scope} {cl:List (Str×Addr)} {pos:Pos} {te:TE} {tt:TT} {wi:TI}
def CLoopIf (J:It) (fv:List (Nat×Str)) (tt:TT) (te:TE) (Q:VK) (σ:St) (H1:Hp) (D:Addr):Prop:=∃W:Nat->Nat->Hp->Prop,(∃m,W 0 m (upd H1 D (.lst [])))∧∀i m H,W i m H->
 (J.stop i H∧Q (.ref D) H)∨(J.go i H∧∃N:Hp->Prop,(∀H',N H'->∃m',m' < m∧W (i+1) m' H')∧∀v H',J.yld i H v H'->tt (bst fv σ (some v)) H' fun b Hb=>if b=true then te (bst fv σ (some v)) Hb fun y H2=>∃ys,H2 D=some (.lst ys)∧ys.length < sizeLine∧N (upd H2 D (.lst (ys++[y]))) else N Hb)
def tCompIf (fv:List (Nat×Str)) (wi:TI) (tt:TT) (te:TE):TE:=fun σ H Q=>wi σ H fun J H1=>∀D,H1 D=none->CLoopIf J fv tt te Q σ H1 D
theorem blk_runIf {pins:List (Addr×Obj)} {σ:St} {H:Hp} {s2:Shared} {it:Addr} {fp:List Addr} {tn:Nat->Heap->Prop} {J:It} {Q:VK} {E:Value->Shared->Prop} {RR:Value->Addr->Result->Shared->Prop}
  (hc:X.calm=true) (B:BlkOk X x fv scope cl) (hcn:∀C s H fp,PT (blk X x fv scope cl C s H fp) cnd tt) (he:∀C s H fp,PE (blk X x fv scope cl C s H fp) elt te) (I:Inv X pins σ H s2) (T:Turn X.prog X.w X.K (.Name x px) J fp it tn) (st:tn 0 s2.heap) (hf:∀b∈fp,FpOk X pins H b)
  (rd:∀D,H D=none->∃W:Nat->Nat->Hp->Prop,(∃m,W 0 m (upd H D (.lst [])))∧∀i m H,W i m H->
   (J.stop i H∧Q (.ref D) H)∨(J.go i H∧∃N:Hp->Prop,(∀H',N H'->∃m',m' < m∧W (i+1) m' H')∧∀v H',J.yld i H v H'->tt (bst fv σ (some v)) H' fun b Hb=>if b=true then te (bst fv σ (some v)) Hb fun y H2=>∃ys,H2 D=some (.lst ys)∧ys.length < sizeLine∧N (upd H2 D (.lst (ys++[y]))) else N Hb))
  (hRR:∀D C s' H' m',Inv X pins σ H' s'->FpOk X pins H' C->s'.heap.Ns C m'->Q (.ref D) H'->RR (.ref D) C (.ok .next) s'):
  wpAny (model X.prog X.w) X.A (newList []) (fun acc s₃=>wpAny (model X.prog X.w) X.A (newFunctionEnv scope X.env.globals cl [] X.env.qual none .none (some X.env)) (fun cenv s₄=>
   codeAny (model X.prog X.w) X.A (.compStart (.ListComp elt [⟨.Name x px,iter,[cnd],0⟩] scope pos) 0 (.ref it) acc { cenv with scope:=relabel scope X.env }) (RR acc cenv.locals) s₄) E s₃) E s2:=by
 refine wpAny_newObj_type ?_ (by show 0<=sizeLine;exact Nat.zero_le _)
 have hD:H s2.heap.objs.size=none:=I.hok.fresh (Nat.le_refl _)
 have I3:=I.lnew (ys:=[]) (its:=[]) (t':=s2.toks) .nil (Nat.zero_le _)
 generalize hs3:({ s2 with heap:=s2.heap.push { cls:=.type "list",data:=.seq ([]:List Value).toArray },toks:=s2.toks }:Shared)=s3 at I3
 have sz3:s3.heap.objs.size=s2.heap.objs.size+1:=by rw [← hs3];exact Heap.size_push ..
 have up3:∀b o,s2.heap.get? b=some o->s3.heap.get? b=some o:=fun b o e=>by rw [← hs3];exact Heap.get?_push_of_some _ e
 have hf3:∀b∈fp,FpOk X pins (upd H s2.heap.objs.size (.lst [])) b:=fun b hb=>by
  obtain⟨f0,r⟩:=hf b hb
  refine⟨?_,r⟩
  obtain⟨o,e,_⟩:=T.obj 0 _ st b hb
  rw [upd_ne (Nat.ne_of_lt (Heap.lt_size e))];exact f0
 have ltf:∀b∈fp,b < s2.heap.objs.size:=fun b hb=>by
  obtain⟨o,e,_⟩:=T.obj 0 _ st b hb
  exact Heap.lt_size e
 have st3:tn 0 s3.heap:=T.keep 0 _ _ st fun b _ o e=>up3 b o e
 obtain⟨W,⟨m0,w0⟩,turn⟩:=rd _ hD
 refine wpAny_newFunctionEnv B.nocell (by intro y hy;simp at hy) (fun h₁ hns₁ hsb₁=>?_) B.kind
 have hfC:∀b∈fp,b≠s3.heap.objs.size:=fun b hb=>Nat.ne_of_lt (by rw [sz3];exact Nat.lt_succ_of_lt (ltf b hb))
 have up4:∀b o,s3.heap.get? b=some o->h₁.get? b=some o:=fun b o e=>hsb₁.extBut b o (Nat.ne_of_lt (Heap.lt_size e)) (Heap.get?_push_of_some _ e)
 generalize hs4:({ s3 with heap:=h₁,toks:=s3.toks+([]:List (Str×Value)).length }:Shared)=s4
 have h4:s4.heap=h₁:=by rw [← hs4]
 have I4:Inv (blk X x fv scope cl s3.heap.objs.size s3 (upd H s2.heap.objs.size (.lst [])) fp) [] (bst fv σ none) (upd H s2.heap.objs.size (.lst [])) s4:=
  blk_start B I3 hf3 rfl hfC (by rw [← hs4]) (by rw [← hs4]) (fun b o e=>by rw [h4];exact up4 b o e) (by rw [h4];exact hns₁)
 have st4:tn 0 s4.heap:=by rw [h4];exact T.keep 0 _ _ st3 fun b _ o e=>up4 b o e
 have stat:∀{H':Hp},(∀b∈fp,H' b=none)->∀b∈fp,FpOk (blk X x fv scope cl s3.heap.objs.size s3 (upd H s2.heap.objs.size (.lst [])) fp) [] H' b:=fun {H'} hn b hb=>by
  obtain⟨_,f1,f2,f3,f4,f5⟩:=hf b hb
  refine⟨hn b hb,hfC b hb,fun z=>?_,.inl hb,fun y c e=>f4 y c (B.sub y c e),fun p hp=>absurd (show p∈([]:List (Addr×Obj)) from hp) (by simp)⟩
  rcases List.mem_cons.mp (I.stkSub b z) with q | q
  ·exact f1 q
  ·exact f2 q
 have loop:codeAny (model X.prog X.w) X.A (.compLoop (.ListComp elt [⟨.Name x px,iter,[cnd],0⟩] scope pos) 0 (.ref it) (.ref s2.heap.objs.size) (compEnvC scope cl s3.heap.objs.size X.env)) (RR (.ref s2.heap.objs.size) s3.heap.objs.size) s4:=by
  refine compLoop_if (fun n s'=>∃i H' o,Inv (blk X x fv scope cl s3.heap.objs.size s3 (upd H s2.heap.objs.size (.lst [])) fp) [] (bst fv σ o) H' s'∧tn i s'.heap∧(∀b∈fp,H' b=none)∧W i n H') ?_ m0
   ⟨0,_,none,I4,st4,fun b hb=>(hf3 b hb).1,w0⟩
  rintro n s5 E' ⟨i,H5,o5,I5,st5,fr5,w5⟩
  rcases turn i n H5 w5 with ⟨stop,q⟩ | ⟨go,N,hN,step⟩
  ·refine thn (T.done (blk X x fv scope cl s3.heap.objs.size s3 (upd H s2.heap.objs.size (.lst [])) fp) rfl rfl rfl hc i [] s5 _ H5 _ I5 (stat fr5) st5 stop) fun r s6 ⟨hr,I6⟩=>?_
   subst hr
   obtain⟨m6,hn6,_⟩:=I6.loc
   have J6:Inv X pins σ H5 s6:=blk_back I I6.hok I6.bare hD up3 I6.base (I6.os.trans (by rw [← hs3])) hf
   refine hRR _ _ s6 H5 m6 J6 ?_ hn6 q
   exact I3.fpOk (Nat.le_refl _) I6.free
  ·refine thn (T.item (blk X x fv scope cl s3.heap.objs.size s3 (upd H s2.heap.objs.size (.lst [])) fp) rfl rfl rfl hc i [] s5 _ H5 _ I5 (stat fr5) st5 go) fun r s6 ⟨u,hr,h6⟩=>?_
   subst hr
   refine thn h6 fun _ s7 ⟨v,H7,I7,r7,y7,st7,fr7⟩=>?_
   have I7':=I7.pinned (stat fr7) (T.obj _ _ st7)
   refine blk_store B I7' r7 fun s8 I8=>?_
   have c8:=hcn _ _ _ _ _ s8 _ H7 _ I8 (step v H7 y7)
   refine wpAny_mono c8 (fun bb sb ⟨Hb,Ib,qb⟩=>?_) fun _ _ z=>False.elim z
   cases bb with
   | false=>
    rw [if_neg (by decide)] at qb
    show (if false=true then _ else _)
    rw [if_neg (by decide)]
    obtain⟨m',hm,w9⟩:=hN _ qb
    refine⟨m',hm,i+1,_,some v,Ib.unpinned,T.keep _ _ _ st7 fun b hb o e=>(Ib.pin (b,o) (List.mem_append_right _ (List.mem_append_right _ (mem_pinsAt hb e)))).1,fun b hb=>?_,w9⟩
    obtain⟨o,e,_⟩:=T.obj _ _ st7 b hb
    exact (Ib.pin (b,o) (List.mem_append_right _ (List.mem_append_right _ (mem_pinsAt hb e)))).2.1
   | true=>
    rw [if_pos rfl] at qb
    show (if true=true then _ else _)
    rw [if_pos rfl]
    have e8:=he _ _ _ _ _ sb _ Hb _ Ib qb
    refine wpAny_mono e8 (fun y s9 ⟨yv,H9,I9,r9,ys,hD9,hz,n9⟩=>?_) fun _ _ z=>False.elim z
    have a9:=blk_tail (E':=E') T (fun _ _ z=>z) st7 I9 r9 hD9 hz n9 hN
    refine wpAny_mono a9 (fun _ s10 zz=>?_) fun _ _ z=>z
    obtain⟨m',hm,H10,I10,t10,f10,w9⟩:=zz
    exact⟨m',hm,i+1,H10,_,I10,t10,f10,w9⟩
 exact codeAny_compStart_list loop (T.self _ 0 _ _ _ st4 loop)
theorem pe_lcompIf (hc:X.calm=true) (B:BlkOk X x fv scope cl) (hi:PI X (.Name x px) iter wi) (hcn:∀C s H fp,PT (blk X x fv scope cl C s H fp) cnd tt) (he:∀C s H fp,PE (blk X x fv scope cl C s H fp) elt te)
  (hs:∀v,foldedSetIterable iter X.env v=pure v:=by intro _;rfl):PE X (.ListComp elt [⟨.Name x px,iter,[cnd],0⟩] scope pos) (tCompIf fv wi tt te):=by
 intro pins s σ H Q I h
 rw [eval_ListComp]
 refine wpAny_comprehension_free (use:=none) rfl hs B.clos B.kind B.names (thn (hi pins s σ H _ I h) fun v s1 h1=>thn h1 fun itv s2 h2=>?_)
 obtain⟨it,fp,tn,J,H2,e,I2,T,st2,f2,rd⟩:=h2
 subst e
 refine blk_runIf (RR:=fun acc C=>compPost (model X.prog X.w) X.A X.xe none (EP X pins σ Q) acc C) hc B hcn he I2 T st2 f2 rd ?_
 intro D C s' H' m' I' fC hn q
 exact⟨m',hn,fun h' sb=>⟨.ref D,H',I'.turned (t':=s'.toks) (fun b o hb e=>(sb.2 b hb).trans e) fC.1 fC.2.1 fC.2.2.2.1 fC.2.2.2.2.1 fC.2.2.2.2.2,rfl,q⟩⟩
end
theorem a_compIf {fv:List (Nat×Str)} {wi:TI} {tt:TT} {te:TE} {σ:St} {H:Hp} {Q:VK}:tCompIf fv wi tt te σ H Q=wi σ H fun J H1=>∀D,H1 D=none->CLoopIf J fv tt te Q σ H1 D:=rfl
theorem cl_listIf {K:W.Frag} {a:Addr} {xs:List V} {σ:St} {H1:Hp} {fv:List (Nat×Str)} {tt:TT} {te:TE} {Q:VK} {L:Addr} (Pv:Nat->Hp->Prop) (h0:Pv 0 (upd H1 L (.lst []))) (hl:∀i H,i<=xs.length->Pv i H->SqL K H a xs)
  (hs:∀i v H,xs[i]?=some v->Pv i H->tt (bst fv σ (some v)) H fun b Hb=>if b=true then te (bst fv σ (some v)) Hb fun y H2=>∃ys,H2 L=some (.lst ys)∧ys.length < sizeLine∧Pv (i+1) (upd H2 L (.lst (ys++[y]))) else Pv (i+1) Hb) (hd:∀H,Pv xs.length H->Q (.ref L) H):
  CLoopIf (Itl K a) fv tt te Q σ H1 L:=by
 refine⟨fun i m H=>m=xs.length - i∧i<=xs.length∧Pv i H,⟨xs.length,by simp,Nat.zero_le _,h0⟩,?_⟩
 rintro i m H ⟨rfl,hi,p⟩
 have q:=hl i H hi p
 by_cases hlt:i < xs.length
 ·refine .inr ⟨⟨xs,xs[i],q,List.getElem?_eq_getElem hlt⟩,Pv (i+1),fun H' p'=>⟨xs.length - (i+1),by omega,rfl,hlt,p'⟩,fun v H' y=>?_⟩
  obtain⟨e,y⟩:=y
  subst e
  exact hs i v _ (y xs q) p
 ·have e:i=xs.length:=by omega
  subst e
  exact .inl ⟨⟨xs,q,Nat.le_refl _⟩,hd H p⟩
theorem ints_are:∀{ns:List Int} {us:List Value},Vals (ns.map V.int) us->IntsAre us ns
 | [],us,h=>by
  cases h;exact .nil
 | n :: ns,us,h=>by
  cases h with
  | cons r rr=>
   obtain⟨t,rfl⟩:=r
   exact .cons n t (ints_are rr)
theorem at_best {zs:Array (Int×Tok)} {ns:List Int} (e:ns=zs.toList.map (·.1)) {j:Nat} (hj:j < zs.size):numAt zs j∈ns:=by
 rw [e,numAt_eq]
 exact PySem.getD_mem (by simpa using hj)
theorem of_best {zs:Array (Int×Tok)} {ns:List Int} (e:ns=zs.toList.map (·.1)) {x:Int} (hx:x∈ns):∃j,j < zs.size∧numAt zs j=x:=by
 rw [e] at hx
 obtain⟨i,hi,h⟩:=mem_getD hx
 exact⟨i,by simpa using hi,by rw [numAt_eq];exact h⟩
def tFst (x:Str) (te:TE):TE:=fun σ H Q=>(Str.empty++x).length<=sizeLine∧te σ H fun v H1=>∃i,v=.int i∧i.natAbs.log2 < 1920∧(Str.empty++x++Str.ofString (toString i)).length<=sizeLine∧Q (.str (Str.empty++x++Str.ofString (toString i))) H1
theorem a_fst {x:Str} {te:TE} {σ:St} {H:Hp} {Q:VK}:tFst x te σ H Q=((Str.empty++x).length<=sizeLine∧te σ H fun v H1=>∃i,v=.int i∧i.natAbs.log2 < 1920∧(Str.empty++x++Str.ofString (toString i)).length<=sizeLine∧Q (.str (Str.empty++x++Str.ofString (toString i))) H1):=rfl
def bst2 (fv:List (Nat×Str)) (σ:St) (v v2:Option V):St:=v :: v2 :: fv.map fun p=>(σ[p.1]?).getD none
section
variable {X:Cx} {elt iter:Expr} {x z:Str} {px pz:Pos} {tk:Nat} {tpos:Pos} {fv:List (Nat×Str)} {scope:Scope} {cl:List (Str×Addr)} {pos:Pos} {te:TE} {wi:TI}
def CLoop2 (K:W.Frag) (J:It) (fv:List (Nat×Str)) (te:TE) (Q:VK) (σ:St) (H1:Hp) (D:Addr):Prop:=∃W:Nat->Nat->Hp->Prop,(∃m,W 0 m (upd H1 D (.lst [])))∧∀i m H,W i m H->
 (J.stop i H∧Q (.ref D) H)∨(J.go i H∧∃N:Hp->Prop,(∀H',N H'->∃m',m' < m∧W (i+1) m' H')∧∀v H',J.yld i H v H'->∃q x1 x2,v=.ref q∧SqT K H' q [x1,x2]∧te (bst2 fv σ (some x1) (some x2)) H' fun y H2=>∃ys,H2 D=some (.lst ys)∧ys.length < sizeLine∧N (upd H2 D (.lst (ys++[y]))))
def tComp2 (K:W.Frag) (fv:List (Nat×Str)) (wi:TI) (te:TE):TE:=fun σ H Q=>wi σ H fun J H1=>∀D,H1 D=none->CLoop2 K J fv te Q σ H1 D
theorem a_tComp2 {K:W.Frag} {σ:St} {H:Hp} {Q:VK}:tComp2 K fv wi te σ H Q=wi σ H fun J H1=>∀D,H1 D=none->CLoop2 K J fv te Q σ H1 D:=rfl
def FvOk2 (X:Cx) (scope:Scope) (cl:List (Str×Addr)) (fv:List (Nat×Str)):Prop:=∀p∈fv,X.N[p.1]?=some p.2∧(X.env.scope.names.lookup p.2=some .cell∨X.env.scope.names.lookup p.2=some .free)∧
  ((relabel scope X.env).names.lookup p.2=some .cell∨(relabel scope X.env).names.lookup p.2=some .free)∧∃c,cl.lookup p.2=some c
theorem fv_nil2 {X:Cx} {scope:Scope} {cl:List (Str×Addr)}:FvOk2 X scope cl []:=fun _ h=>nomatch h
end
def Itz (K:W.Frag) (a b:Addr):It:=
 ⟨fun i H=>∃xs ys x y,SqL K H a xs∧SqL K H b ys∧xs[i]?=some x∧ys[i]?=some y,fun i H v H'=>∃p x y,H p=none∧v=.ref p∧H'=upd H p (.tup [x,y])∧(∀xs,SqL K H a xs->xs[i]?=some x)∧∀ys,SqL K H b ys->ys[i]?=some y,
  fun i H=>∃xs ys,SqL K H a xs∧SqL K H b ys∧(xs.length<=i∨ys.length<=i)⟩
theorem turn_zip {P:Program} {w:World} {K:W.Frag} {elts:List Expr} {tk:Nat} {tpos:Pos} (a b z TI TO i1 i2:Addr) (D:ZipApart z TI TO i1 i2 a b):
  Turn P w K (.Tuple elts tk tpos) (Itz K a b) [z,TI,TO,i1,i2] z (fun i h=>IsZip h z TI TO .none∧IsPair h TI (.ref i1) (.ref i2)∧(∃u v,IsPair h TO u v)∧h.IsListIter i1 a i∧h.IsListIter i2 b i) where
 mem:=by simp
 obj:=fun i h st c hb=>by
  obtain⟨hz,hTI,⟨u,v,hTO⟩,⟨o1,e1,c1,d1⟩,⟨o2,e2,c2,d2⟩⟩:=st
  simp only [List.mem_cons,List.not_mem_nil,or_false] at hb
  rcases hb with rfl | rfl | rfl | rfl | rfl
  ·exact⟨_,hz,fun v z=>by
    have z':Data.fields _=Data.cell v:=z
    cases z'⟩
  ·exact⟨_,hTI,fun v z=>by
    have z':Data.seq _=Data.cell v:=z
    cases z'⟩
  ·exact⟨_,hTO,fun v z=>by
    have z':Data.seq _=Data.cell v:=z
    cases z'⟩
  ·exact⟨o1,e1,fun v z=>by rw [d1] at z;cases z⟩
  ·exact⟨o2,e2,fun v z=>by rw [d2] at z;cases z⟩
 keep:=fun i h h' st k=>by
  obtain⟨hz,hTI,⟨u,v,hTO⟩,h1,h2⟩:=st
  exact⟨k z (by simp) _ hz,k TI (by simp) _ hTI,⟨u,v,k TO (by simp) _ hTO⟩,h1.at fun o q=>k i1 (by simp) o q,h2.at fun o q=>k i2 (by simp) o q⟩
 item:=by
  intro X hP hw hK hc i pins s σ H E I hf st hg
  subst hP hw hK
  obtain⟨xs,ys,x,y,hq1,hq2,hx,hy⟩:=hg
  obtain⟨its1,rv1,pl1,hz1⟩:=I.list hq1
  obtain⟨its2,rv2,pl2,hz2⟩:=I.list hq2
  obtain⟨u1,hu1,ru1⟩:=rv1.get hx
  obtain⟨u2,hu2,ru2⟩:=rv2.get hy
  obtain⟨hz,hTI,⟨_,_,hTO⟩,hit1,hit2⟩:=st
  refine wpAny_pyNext_zip_item D hz hTI hTO hit1 hit2 pl1.isList pl2.isList (x:=u1) (y:=u2) (by simpa using hu1) (by simpa using hu2) fun h1 ho hTO1 hi1 hi2 hT hsz hk=>?_
  refine⟨_,rfl,wpAny_letOwnedTupleGo_zip ho fun h2 he2 hs2=>?_⟩
  have hp:H s.heap.objs.size=none:=I.hok.fresh (Nat.le_refl _)
  have hpz:s.heap.objs.size≠z:=Nat.ne_of_gt (Heap.lt_size hz)
  have k2:∀c o,c∉[z,TI,TO,i1,i2]->s.heap.get? c=some o->h2.get? c=some o:=fun c o hb q=>
   (hs2.2 c fun e=>hb (by simp [e])).trans (hk c o (fun e=>hb (by simp [e])) (fun e=>hb (by simp [e])) (fun e=>hb (by simp [e])) (fun e=>hb (by simp [e])) q)
  have hT2:h2.get? s.heap.objs.size=some { cls:=.type "tuple",data:=.seq #[u1,u2] }:=(hs2.2 _ hpz).trans hT
  have nch:∀c u,H c=some u->c∉[z,TI,TO,i1,i2]:=fun c u q hb=>by
   rw [(hf c hb).1] at q;cases q
  have up:∀c,c < s.heap.objs.size->c≠s.heap.objs.size:=fun c hb=>Nat.ne_of_lt hb
  have I2:Inv X pins σ (upd H s.heap.objs.size (.tup [x,y])) { s with heap:=h2 }:=by
   refine I.step (g':=s.gens) (d':=s.drawn) (t':=s.toks) (ch:=[z,TI,TO,i1,i2]) (fun c hb=>?_) (fun c o _ _ hc q _=>k2 c o hc q) (fun c o _ _ hc q _=>⟨o.slots,k2 c o hc q⟩)
    (fun c o _ q n=>by rw [upd_ne (up c (Heap.lt_size q))];exact n) (fun c o hc q=>⟨o,k2 c o hc q⟩) (fun c ys q=>by rw [upd_ne (ne_of_none q hp)];exact q) (fun c o v q=>by rw [upd_ne (ne_of_none q hp)];exact q)
    (fun c ps q=>⟨#[],by rw [upd_ne (ne_of_none q hp),q];simp⟩) (fun m hm=>?_) (fun c v q=>?_) I.bare
   ·obtain⟨f0,f1,f2,f3,f4,f5⟩:=hf c hb
    exact⟨f3,f1,f4,f5⟩
   ·obtain⟨o,es,ep,q,r⟩:=hm
    refine⟨o,es,ep,k2 _ o (fun e=>?_) q,r⟩
    exact (hf _ e).2.1 rfl
   ·by_cases hb:c=s.heap.objs.size
    ·subst hb
     rw [upd_same] at q;cases q
     exact⟨by show 2<=sizeLine;decide,[u1,u2],.cons ru1 (.cons ru2 .nil),⟨_,hT2,rfl,_,rfl⟩⟩
    ·rw [upd_ne hb] at q
     refine (I.hok c v q).stay (fun c' o hc r=>k2 c' o ?_ r) (fun c' r=>by rw [upd_ne (ne_of_none r hp)];exact r) fun c' ys r=>by rw [upd_ne (ne_of_none r hp)];exact r
     rcases hc with e | e
     ·rw [e];exact nch c v q
     ·exact nch c' _ e
  refine⟨.ref s.heap.objs.size,_,I2,rfl,⟨_,x,y,hp,rfl,rfl,fun zs hz'=>by rw [I.list_inj hz' hq1];exact hx,fun zs hz'=>by rw [I.list_inj hz' hq2];exact hy⟩,
   ⟨he2,(hs2.2 TI D.TIz).trans (hk TI _ D.TIz D.TITO D.TIi1 D.TIi2 hTI),⟨_,_,(hs2.2 TO D.TOz).trans hTO1⟩,hi1.at fun o q=>(hs2.2 i1 D.i1z).trans q,hi2.at fun o q=>(hs2.2 i2 D.i2z).trans q⟩,fun c hb=>?_⟩
  have lb:c < s.heap.objs.size:=by
   simp only [List.mem_cons,List.not_mem_nil,or_false] at hb
   rcases hb with rfl | rfl | rfl | rfl | rfl
   ·exact Heap.lt_size hz
   ·exact Heap.lt_size hTI
   ·exact Heap.lt_size hTO
   ·obtain⟨_,q,_⟩:=hit1;exact Heap.lt_size q
   ·obtain⟨_,q,_⟩:=hit2;exact Heap.lt_size q
  rw [upd_ne (up c lb)]
  exact (hf c hb).1
 done:=by
  intro X hP hw hK hc i pins s σ H E I hf st hg
  subst hP hw hK
  obtain⟨xs,ys,hq1,hq2,hx⟩:=hg
  obtain⟨its1,rv1,pl1,hz1⟩:=I.list hq1
  obtain⟨its2,rv2,pl2,hz2⟩:=I.list hq2
  obtain⟨hz,hTI,⟨_,_,hTO⟩,hit1,hit2⟩:=st
  have hl1:=rv1.length
  have hl2:=rv2.length
  refine wpAny_pyNext_zip_end (I.ok.hd hc) D hz hTI hTO hit1 hit2 pl1.isList pl2.isList (by rcases hx with e | e;exact .inl (by simp;omega);exact .inr (by simp;omega)) fun h' eb=>⟨rfl,?_⟩
  have k2:∀c o,c∉[z,TI,TO,i1,i2]->s.heap.get? c=some o->h'.get? c=some o:=fun c o hb q=>eb c o (fun e=>hb (by simp [e])) (fun e=>hb (by simp [e])) (fun e=>hb (by simp [e])) (fun e=>hb (by simp [e])) q
  refine I.step (g':=s.gens) (d':=s.drawn) (t':=s.toks) (ch:=[z,TI,TO,i1,i2]) (fun c hb=>?_) (fun c o _ _ hc q _=>k2 c o hc q) (fun c o _ _ hc q _=>⟨o.slots,k2 c o hc q⟩)
   (fun c o _ q n=>n) (fun c o hc q=>⟨o,k2 c o hc q⟩) (fun c ys q=>q) (fun c o v q=>q) (fun c ps q=>⟨#[],by rw [q];simp⟩) (fun m hm=>?_) (fun c v q=>?_) I.bare
  ·obtain⟨f0,f1,f2,f3,f4,f5⟩:=hf c hb
   exact⟨f3,f1,f4,f5⟩
  ·obtain⟨o,es,ep,q,r⟩:=hm
   exact⟨o,es,ep,k2 _ o (fun e=>(hf _ e).2.1 rfl) q,r⟩
  ·refine (I.hok c v q).stay (fun c' o hc r=>k2 c' o ?_ r) (fun c' r=>r) fun c' ys r=>r
   have nch:∀c u,H c=some u->c∉[z,TI,TO,i1,i2]:=fun c u q hb=>by
    rw [(hf c hb).1] at q;cases q
   rcases hc with e | e
   ·rw [e];exact nch c v q
   ·exact nch c' _ e
 self:=fun _ _ _ _ _ st h=>wpAny_pyIter_zip st.1 h
section
variable {X:Cx}
def iZip (K:W.Frag) (ta:TA):TI:=fun σ H R=>ta σ H fun vs H1=>∃a b xs ys,vs=[.ref a,.ref b]∧SqL K H1 a xs∧SqL K H1 b ys∧R (Itz K a b) H1
end
theorem a_izip {K:W.Frag} {ta:TA} {σ:St} {H:Hp} {R:It->Hp->Prop}:iZip K ta σ H R=ta σ H fun vs H1=>∃a b xs ys,vs=[.ref a,.ref b]∧SqL K H1 a xs∧SqL K H1 b ys∧R (Itz K a b) H1:=rfl
section
variable {X:Cx}
def ipC (C:Int->Int->Prop) (f:Int->Int->Int):TIp:=fun x y H Q=>∃i j,x=.int i∧y=.int j∧C i j∧Q (.int (f i j)) H
theorem a_ipC {C:Int->Int->Prop} {f:Int->Int->Int} {x y:V} {H:Hp} {Q:VK}:ipC C f x y H Q=∃i j,x=.int i∧y=.int j∧C i j∧Q (.int (f i j)) H:=rfl
end
section
variable {X:Cx} {elt iter cnd:Expr} {x:Str} {px:Pos} {fv:List (Nat×Str)} {scope:Scope} {cl:List (Str×Addr)} {pos:Pos} {te:TE} {tt:TT} {wi:TI}
end
section
variable {prog:Program} {w:World} {A:Around} {R:Result->Shared->Prop} {I S:Addr} {fp wr:List Addr} {n:Nat} {P:Nat->Value->Prop} {St:Nat->Heap->Prop} {bt:Nat->Nat->Bool} {d:List (Str×Value)}
end
def tMaxD (K:W.Frag) (t tk:TA):TE:=fun σ H Q=>t σ H fun vs H1=>tk σ H1 fun zs H2=>∃p ns d,vs=[.ref p]∧zs=[.int d]∧SqL K H2 p (ns.map V.int)∧∀M,(ns=[]∧M=d)∨(M∈ns∧∀a∈ns,a<=M)->Q (.int M) H2
theorem a_maxD {K:W.Frag} {t tk:TA} {σ:St} {H:Hp} {Q:VK}:tMaxD K t tk σ H Q=t σ H fun vs H1=>tk σ H1 fun zs H2=>∃p ns d,vs=[.ref p]∧zs=[.int d]∧SqL K H2 p (ns.map V.int)∧∀M,(ns=[]∧M=d)∨(M∈ns∧∀a∈ns,a<=M)->Q (.int M) H2:=rfl
theorem a_inS {K:W.Frag} {neg:Bool} {x y:V} {H:Hp} {Q:VK}:rIn K neg x y H Q=∃p xs,y=.ref p∧(SqL K H p xs∨SqT K H p xs)∧flatV x=true∧xs.all flatV=true∧Q (.bl (if neg then !inV x xs else inV x xs)) H:=rfl
open PySem
section
variable {prog:Program} {w:World} {A:Around} {E:Value->Shared->Prop} {s:Shared} {d:Addr} {es:Array DictEntry} {ep:Nat}
end
open PySem
section
variable {prog:Program} {w:World} {A:Around} {E:Value->Shared->Prop} {s:Shared} {d it:Addr} {es:Array DictEntry} {ep i:Nat} {ok ov:Value}
end
open PySem
section
variable {prog:Program} {w:World} {A:Around} {E:Value->Shared->Prop} {s:Shared} {d o:Addr} {es:Array DictEntry} {ep epd:Nat}
end
open PySem
section
variable {prog:Program} {w:World} {K:Type} [DecidableEq K] {kn:KeyKind prog w K} {A:Around} {E:Value->Shared->Prop}
end
section
variable {prog:Program} {w:World} {A:Around} {E:Value->Shared->Prop} {s:Shared}
end
open PySem
open PySem
section
variable {prog:Program} {w:World} {K:Type} [DecidableEq K] {kn:KeyKind prog w K} {A:Around} {E:Value->Shared->Prop} {s:Shared}
end
open PySem
section
variable {prog:Program} {w:World} {K:Type} [DecidableEq K] {knd:HeapKind prog w K} {A:Around} {E:Value->Shared->Prop} {s:Shared}
end
open PySem
section
variable {K:Type} [DecidableEq K]
end
open PySem
section
variable {prog:Program} {w:World} {A:Around} {E:Value->Shared->Prop} {s:Shared} {d it:Addr} {es:Array DictEntry} {ep i:Nat}
end
open PySem
inductive Tr where | lf | nd (l:Tr) (k:Nat) (r:Tr)
def Tr.ins (k:Nat):Tr->Option Tr
 | .lf=>some (.nd .lf k .lf)
 | .nd l m r=>match Nat.blt k m with
  | true=>match Tr.ins k l with | some l'=>some (.nd l' m r) | none=>none
  | false=>match Nat.blt m k with
   | true=>match Tr.ins k r with | some r'=>some (.nd l m r') | none=>none
   | false=>none
def Tr.all:List Nat->Tr->Bool
 | [],_=>true
 | k :: ks,t=>match t.ins k with | some t'=>Tr.all ks t' | none=>false
def Tr.mem (x:Nat):Tr->Prop
 | .lf=>False
 | .nd l k r=>x=k∨l.mem x∨r.mem x
abbrev P2:=Int×Int
section
variable {X:Cx} {pins:List (Addr×Obj)} {σ:St} {H H':Hp} {s:Shared} {a:Addr} {o:Obj} {kvs:List (List Key×V)}
end
section
variable {X:Cx}
end
section
variable {X:Cx} {elt iter cnd:Expr} {x z:Str} {px pz:Pos} {tk:Nat} {tpos:Pos} {fv:List (Nat×Str)} {scope:Scope} {cl:List (Str×Addr)} {pos:Pos} {te:TE} {tt:TT} {wi:TI}
end
section
variable {X:Cx}
end
section
variable {X:Cx} {pins:List (Addr×Obj)} {σ:St} {H:Hp} {s:Shared} {A:Around} {E:Value->Shared->Prop}
end
section
variable {X:Cx}
end
section
variable {X:Cx} {td ty tv tx to:TE} {σ:St} {H:Hp} {Q:VK} {D:Ends}
end
section
variable {prog:Program} {w:World} {A:Around} {E:Value->Shared->Prop} {s:Shared} {d:Addr} {es:Array DictEntry} {ep:Nat}
end
section
variable {X:Cx}
end
section
variable {X:Cx} {k:Nat} {f C:Addr} {fd:FuncData} {ps:List Str} {sp:Sp} {m:Str} {pos apos:Pos} {o e:Expr} {es:List Expr} {ta:TE} {t:TA}
end
section
variable {K:W.Frag} {C:Addr} {m f:Str} {sp:Sp} {dvs:List V} {E:XK} {ta tv:TE} {t:TA} {σ:St} {H:Hp} {Q:VK} {D:Ends}
theorem a_fld:tFld K ta f σ H Q=ta σ H fun x H1=>∃a C dx fs v,x=.ref a∧H1 a=some (.ins C dx fs)∧Cls K C∧NoAttr K C f∧fs.lookup f=some v∧Q v H1:=rfl
theorem a_sfld:sFld K ta tv f D σ H=tv σ H fun y H1=>ta σ H1 fun x H2=>∃a C dx fs,x=.ref a∧H2 a=some (.ins C dx fs)∧Cls K C∧NoAttr K C f∧fs.length < 1000∧D.nx σ (upd H2 a (.ins C dx (putF f y fs))):=rfl
theorem a_meth:tMeth C m sp dvs E ta t σ H Q=ta σ H fun x H1=>∃a dx fs,x=.ref a∧H1 a=some (.ins C dx fs)∧fs.lookup m=none∧t σ H1 fun vs H2=>sp (x :: (vs++dvs)) H2 Q E:=rfl
theorem a_make:tMake C sp dvs E t σ H Q=t σ H fun vs H1=>∀x dx,H1 x=none->H1 dx=none->dx≠x->sp (.ref x :: (vs++dvs)) (upd (upd H1 dx (.own x)) x (.ins C dx [])) (fun v H2=>v=.non∧Q (.ref x) H2) E:=rfl
end
section
variable {prog:Program} {w:World} {A:Around} {E:Value->Shared->Prop} {s:Shared}
theorem nxT_item {it t:Addr} {i:Nat} {items:Array Value} {x:Value} {Q:Value->Shared->Prop} (hit:s.heap.IsTupleIter it t i) (ht:s.heap.IsTuple t items) (hx:items[i]?=some x)
  (hQ:∀h',h'.IsTupleIter it t (i+1)->Heap.SameBut it s.heap h'->Q x { s with heap:=h' }):wpAny (model prog w) A (Builtin.SmallTypes.nextOf (.ref it)) Q E s:=by
 have ⟨o,ho,hc,hd⟩:=hit
 have ⟨ol,hol,_,nl,hdl⟩:=ht
 refine wpAny_bind (wpAny_callSpecial?_slot (name:=Str.ofString "__next__") hit.typeIs F.slot_tuple_iterator_next (wpAny_call_entry F.slot_tuple_iterator_next hit.typeIs F.entry_tuple_iterator_next ?_ (F.args_tuple_iterator_next_1 _)))
 refine wpAny_bind (m:=field (.ref it) 0) (wpAny_field ho hd (x:=.ref t) rfl ?_)
 refine wpAny_bind (m:=field (.ref it) 1) (wpAny_field ho hd (x:=.int i 0) rfl ?_)
 refine wpAny_bind (m:=seqItems? (.ref t)) (wpAny_seqItems hol hdl ?_)
 simp only [Int.toNat_natCast,hx]
 refine wpAny_bind (wpAny_setField ho hd (by simp) (wpAny_pure ⟨x,rfl,wpAny_pure (hQ _ ⟨_,Heap.get?_update_self _ ho (Obj.isFreed_of_fields (Obj.data_mapFields hd _)),(Obj.cls_mapFields ..).trans hc,?_⟩ (Heap.SameBut.update ..))⟩))
 rw [Obj.data_mapFields hd];simp [rawInt]
theorem nxT_end {it t:Addr} {i:Nat} {items:Array Value} {Q:Value->Shared->Prop} (hh:A.handled=none) (hit:s.heap.IsTupleIter it t i) (ht:s.heap.IsTuple t items) (hx:items[i]?=none)
  (hE:∀h' e,Heap.ExtBut it s.heap h'->(∃o,h'.get? e=some o∧o.cls=.type "StopIteration")->E (.ref e) { s with heap:=h' }):wpAny (model prog w) A (Builtin.SmallTypes.nextOf (.ref it)) Q E s:=by
 have ⟨o,ho,hc,hd⟩:=hit
 have ⟨ol,hol,_,nl,hdl⟩:=ht
 refine wpAny_bind (wpAny_callSpecial?_slot (name:=Str.ofString "__next__") hit.typeIs F.slot_tuple_iterator_next (wpAny_call_entry F.slot_tuple_iterator_next hit.typeIs F.entry_tuple_iterator_next ?_ (F.args_tuple_iterator_next_1 _)))
 refine wpAny_bind (m:=field (.ref it) 0) (wpAny_field ho hd (x:=.ref t) rfl ?_)
 refine wpAny_bind (m:=field (.ref it) 1) (wpAny_field ho hd (x:=.int i 0) rfl ?_)
 refine wpAny_bind (m:=seqItems? (.ref t)) (wpAny_seqItems hol hdl ?_)
 simp only [Int.toNat_natCast,hx]
 refine wpAny_bind (wpAny_rule (wpAny_bind (wpAny_setField ho hd (by simp) (wpAny_bind (m:=newExc (.type "StopIteration") []) ?_))))
 simp only [newExc,newTuple]
 refine wpAny_bind (wpAny_newObj_type (wpAny_bind (m:=firstArgMember _ _) (wpAny_of_eq (a:=Value.none) (by first | rfl | (simp only [firstArgMember];rfl)) (wpAny_newObj_type ?_ (by size_fits)))) (by size_fits))
 simp only [raiseNew]
 refine wpAny_bind (wpAny_handled ?_)
 first | rw [show A.in1.handled=none from hh] | rw [hh]
 exact wpAny_bind (wpAny_pure (wpAny_throw (hE _ _ (((Heap.SameBut.update ..).extBut.push _).push _) ⟨_,Heap.get?_push_size _ rfl,rfl⟩)))
theorem zipT_item {z TI TO i1 i2 l1 l2:Addr} {k:Nat} {xs ys:Array Value} {x y a b:Value} {Q:Value->Shared->Prop} (D:ZipApart z TI TO i1 i2 l1 l2)
  (hz:IsZip s.heap z TI TO .none) (hTI:IsPair s.heap TI (.ref i1) (.ref i2)) (hTO:IsPair s.heap TO a b) (h1:s.heap.IsTupleIter i1 l1 k) (h2:s.heap.IsTupleIter i2 l2 k) (t1:s.heap.IsTuple l1 xs) (t2:s.heap.IsTuple l2 ys) (hx:xs[k]?=some x) (hy:ys[k]?=some y)
  (hQ:∀h',IsZip h' z TI TO (rawInt s.heap.objs.size)->IsPair h' TO x y->h'.IsTupleIter i1 l1 (k+1)->h'.IsTupleIter i2 l2 (k+1)->IsPair h' s.heap.objs.size x y->
   (∀c o,c∉[z,TO,i1,i2]->s.heap.get? c=some o->h'.get? c=some o)->Q (.ref s.heap.objs.size) { s with heap:=h' }):
  wpAny (model prog w) A (Builtin.«zip.__next__» ⟨[.ref z],[]⟩) (fun fin s'=>∃v,fin=.done (.ret v)∧Q v s') E s:=by
 refine wpAny_bind (m:=field (.ref z) 2) (wpAny_field hz rfl (x:=.bool false) rfl ?_)
 refine wpAny_bind (m:=field (.ref z) 3) (wpAny_field hz rfl (x:=.ref TI) rfl (wpAny_bind (wpAny_seqItems hTI rfl ?_)))
 refine wpAny_bind (m:=Builtin.SmallTypes.ownedTupleIsFree (.ref z)) (wpAny_bind (m:=field (.ref z) 0) (wpAny_field hz rfl (x:=.none) rfl (wpAny_pure ?_)))
 simp only [if_true]
 refine wpAny_bind (wpAny_rule (wpAny_bind (wpAny_field hz rfl (x:=.ref TO) rfl (wpAny_bind (wpAny_setField_rec hz (by simp) fun g₁ z₁ c₁=>wpAny_bind ?_)))))
 replace z₁:IsZip g₁ z TI TO .ellipsis:=z₁
 simp only [List.zipIdx_cons,List.zipIdx_nil,List.forIn_cons,List.forIn_nil]
 have b₁:=c₁.extBut
 refine wpAny_bind (wpAny_bind (wpAny_onRaise (wpAny_bind (m:=Builtin.SmallTypes.nextOf (.ref i1)) (nxT_item (h1.extBut b₁ D.i1z) (t1.extBut b₁ D.l1z) hx fun g₂ j₂ c₂=>wpAny_pure ?_))))
 have b₂:=c₂.extBut
 have o₂:IsPair g₂ TO a b:=b₂ _ _ D.TOi1 (b₁ _ _ D.TOz hTO)
 refine wpAny_bind (wpAny_seqItems o₂ rfl (wpAny_bind (wpAny_updateSeq_pair o₂ fun g₃ o₃ c₃=>wpAny_bind (wpAny_letGo (wpAny_pure ?_)))))
 replace o₃:IsPair g₃ TO x b:=o₃
 have b₃:=c₃.extBut
 have e2:∀c o,c≠z->c≠i1->c≠TO->s.heap.get? c=some o->g₃.get? c=some o:=fun c o n1 n2 n3 e=>b₃ _ _ n3 (b₂ _ _ n2 (b₁ _ _ n1 e))
 refine wpAny_bind (wpAny_bind (wpAny_onRaise (wpAny_bind (m:=Builtin.SmallTypes.nextOf (.ref i2)) (nxT_item (s:={ s with heap:=g₃ }) (h2.at fun o e=>e2 _ o D.i2z D.i12.symm D.TOi2.symm e) (t2.at fun o e=>e2 _ o D.l2z D.l2i1 D.l2TO e) hy fun g₄ j₄ c₄=>wpAny_pure ?_))))
 have b₄:=c₄.extBut
 have o₄:IsPair g₄ TO x b:=b₄ _ _ D.TOi2 o₃
 refine wpAny_bind (wpAny_seqItems o₄ rfl (wpAny_bind (wpAny_updateSeq_pair o₄ fun g₅ o₅ c₅=>wpAny_bind (wpAny_letGo (wpAny_pure (wpAny_pure (wpAny_bind ?_)))))))
 replace o₅:IsPair g₅ TO x y:=o₅
 have b₅:=c₅.extBut
 refine wpAny_seqItems o₅ rfl (wpAny_bind (wpAny_newTuple ?_))
 have sz:g₅.objs.size=s.heap.objs.size:=by rw [c₅.1,c₄.1,c₃.1,c₂.1,c₁.1]
 have z₅:IsZip g₅ z TI TO .ellipsis:=b₅ _ _ D.TOz.symm (b₄ _ _ D.i2z.symm (b₃ _ _ D.TOz.symm (b₂ _ _ D.i1z.symm z₁)))
 have j₁:g₅.IsTupleIter i1 l1 (k+1):=j₂.at fun o e=>b₅ _ _ D.TOi1.symm (b₄ _ _ D.i12 (b₃ _ _ D.TOi1.symm e))
 have j₅:g₅.IsTupleIter i2 l2 (k+1):=j₄.at fun o e=>b₅ _ _ D.TOi2.symm e
 have lz:z < g₅.objs.size:=Heap.lt_size z₅
 refine wpAny_bind (m:=Builtin.SmallTypes.ownedTupleHandOut (.ref z) (.ref g₅.objs.size)) (wpAny_bind (wpAny_setField_rec (Heap.get?_push_of_some _ z₅) (by simp) fun g₇ z₇ c₇=>?_))
 replace z₇:IsZip g₇ z TI TO (rawInt g₅.objs.size):=z₇
 refine wpAny_setField_rec z₇ (by simp) fun g₈ z₈ c₈=>?_
 replace z₈:IsZip g₈ z TI TO (rawInt g₅.objs.size):=z₈
 have up:∀c o,c≠z->(g₅.push { cls:=.type "tuple",data:=.seq #[x,y] }).get? c=some o->g₈.get? c=some o:=fun c o n e=>c₈.extBut _ _ n (c₇.extBut _ _ n e)
 have T₈:IsPair g₈ g₅.objs.size x y:=up _ _ (Nat.ne_of_gt lz) (Heap.get?_push_size _ rfl)
 have up5:∀c o,c≠z->g₅.get? c=some o->g₈.get? c=some o:=fun c o n e=>up c o n (Heap.get?_push_of_some _ e)
 refine wpAny_pure ⟨_,rfl,?_⟩
 show Q (.ref g₅.objs.size) _
 rw [sz] at z₈ T₈ ⊢
 refine hQ g₈ z₈ (up5 _ _ D.TOz o₅) (j₁.at fun o e=>up5 _ o D.i1z e) (j₅.at fun o e=>up5 _ o D.i2z e) T₈ fun c o hc e=>?_
 have n1:c≠z:=fun h=>hc (by simp [h])
 have n2:c≠TO:=fun h=>hc (by simp [h])
 have n3:c≠i1:=fun h=>hc (by simp [h])
 have n4:c≠i2:=fun h=>hc (by simp [h])
 exact up5 c o n1 (b₅ _ _ n2 (b₄ _ _ n4 (e2 c o n1 n3 n2 e)))
theorem zipT_end {z TI TO i1 i2 l1 l2:Addr} {k:Nat} {xs ys:Array Value} {a b:Value} {Q:Fin->Shared->Prop} (hh:A.handled=none) (D:ZipApart z TI TO i1 i2 l1 l2)
  (hz:IsZip s.heap z TI TO .none) (hTI:IsPair s.heap TI (.ref i1) (.ref i2)) (hTO:IsPair s.heap TO a b) (h1:s.heap.IsTupleIter i1 l1 k) (h2:s.heap.IsTupleIter i2 l2 k) (t1:s.heap.IsTuple l1 xs) (t2:s.heap.IsTuple l2 ys) (hx:xs[k]?=none∨ys[k]?=none)
  (hE:∀h' e,(∀c o,c∉[z,TO,i1,i2]->s.heap.get? c=some o->h'.get? c=some o)->(∃o,h'.get? e=some o∧o.cls=.type "StopIteration")->E (.ref e) { s with heap:=h' }):
  wpAny (model prog w) A (Builtin.«zip.__next__» ⟨[.ref z],[]⟩) Q E s:=by
 refine wpAny_bind (m:=field (.ref z) 2) (wpAny_field hz rfl (x:=.bool false) rfl ?_)
 refine wpAny_bind (m:=field (.ref z) 3) (wpAny_field hz rfl (x:=.ref TI) rfl (wpAny_bind (wpAny_seqItems hTI rfl ?_)))
 refine wpAny_bind (m:=Builtin.SmallTypes.ownedTupleIsFree (.ref z)) (wpAny_bind (m:=field (.ref z) 0) (wpAny_field hz rfl (x:=.none) rfl (wpAny_pure ?_)))
 simp only [if_true]
 refine wpAny_bind (wpAny_rule (wpAny_bind (wpAny_field hz rfl (x:=.ref TO) rfl (wpAny_bind (wpAny_setField_rec hz (by simp) fun g₁ z₁ c₁=>wpAny_bind ?_)))))
 replace z₁:IsZip g₁ z TI TO .ellipsis:=z₁
 simp only [List.zipIdx_cons,List.zipIdx_nil,List.forIn_cons,List.forIn_nil]
 have b₁:=c₁.extBut
 have nz:∀{g:Heap} {e:Addr} {o:Obj},IsZip g z TI TO .ellipsis->g.get? e=some o->o.cls=.type "StopIteration" -> e≠z:=fun {g e o} q r c h=>by
  subst h
  rw [q] at r;cases r;simp at c
 cases hx1:xs[k]? with
 | none=>
  refine wpAny_bind (wpAny_bind (wpAny_onRaise (wpAny_bind (m:=Builtin.SmallTypes.nextOf (.ref i1)) (nxT_end hh (h1.extBut b₁ D.i1z) (t1.extBut b₁ D.l1z) hx1 fun g₂ e b₂ ⟨oe,he,ce⟩=>?_))))
  have z₂:IsZip g₂ z TI TO .ellipsis:=b₂ _ _ D.i1z.symm z₁
  refine wpAny_setField_rec z₂ (by simp) fun g₃ _ c₃=>hE g₃ e (fun c o hc q=>?_) ⟨oe,c₃.extBut _ _ (nz z₂ he ce) he,ce⟩
  exact c₃.extBut _ _ (fun h=>hc (by simp [h])) (b₂ _ _ (fun h=>hc (by simp [h])) (b₁ _ _ (fun h=>hc (by simp [h])) q))
 | some x=>
  have hy:ys[k]?=none:=hx.resolve_left (by rw [hx1];exact fun h=>nomatch h)
  refine wpAny_bind (wpAny_bind (wpAny_onRaise (wpAny_bind (m:=Builtin.SmallTypes.nextOf (.ref i1)) (nxT_item (h1.extBut b₁ D.i1z) (t1.extBut b₁ D.l1z) hx1 fun g₂ j₂ c₂=>wpAny_pure ?_))))
  have b₂:=c₂.extBut
  have o₂:IsPair g₂ TO a b:=b₂ _ _ D.TOi1 (b₁ _ _ D.TOz hTO)
  refine wpAny_bind (wpAny_seqItems o₂ rfl (wpAny_bind (wpAny_updateSeq_pair o₂ fun g₃ o₃ c₃=>wpAny_bind (wpAny_letGo (wpAny_pure ?_)))))
  have b₃:=c₃.extBut
  have e2:∀c o,c≠z->c≠i1->c≠TO->s.heap.get? c=some o->g₃.get? c=some o:=fun c o n1 n2 n3 e=>b₃ _ _ n3 (b₂ _ _ n2 (b₁ _ _ n1 e))
  refine wpAny_bind (wpAny_bind (wpAny_onRaise (wpAny_bind (m:=Builtin.SmallTypes.nextOf (.ref i2)) (nxT_end (s:={ s with heap:=g₃ }) hh (h2.at fun o e=>e2 _ o D.i2z D.i12.symm D.TOi2.symm e) (t2.at fun o e=>e2 _ o D.l2z D.l2i1 D.l2TO e) hy fun g₄ e b₄ ⟨oe,he,ce⟩=>?_))))
  have z₄:IsZip g₄ z TI TO .ellipsis:=b₄ _ _ D.i2z.symm (b₃ _ _ D.TOz.symm (b₂ _ _ D.i1z.symm z₁))
  refine wpAny_setField_rec z₄ (by simp) fun g₅ _ c₅=>hE g₅ e (fun c o hc q=>?_) ⟨oe,c₅.extBut _ _ (nz z₄ he ce) he,ce⟩
  exact c₅.extBut _ _ (fun h=>hc (by simp [h])) (b₄ _ _ (fun h=>hc (by simp [h])) (e2 c o (fun h=>hc (by simp [h])) (fun h=>hc (by simp [h])) (fun h=>hc (by simp [h])) q))
theorem pyNext_zipT {z TI TO i1 i2 l1 l2:Addr} {k:Nat} {xs ys:Array Value} {x y a b:Value} {Q:Option Value->Shared->Prop} (D:ZipApart z TI TO i1 i2 l1 l2)
  (hz:IsZip s.heap z TI TO .none) (hTI:IsPair s.heap TI (.ref i1) (.ref i2)) (hTO:IsPair s.heap TO a b) (h1:s.heap.IsTupleIter i1 l1 k) (h2:s.heap.IsTupleIter i2 l2 k) (t1:s.heap.IsTuple l1 xs) (t2:s.heap.IsTuple l2 ys) (hx:xs[k]?=some x) (hy:ys[k]?=some y)
  (hQ:∀h',IsZip h' z TI TO (rawInt s.heap.objs.size)->IsPair h' TO x y->h'.IsTupleIter i1 l1 (k+1)->h'.IsTupleIter i2 l2 (k+1)->IsPair h' s.heap.objs.size x y->
   (∀c o,c∉[z,TO,i1,i2]->s.heap.get? c=some o->h'.get? c=some o)->Q (some (.ref s.heap.objs.size)) { s with heap:=h' }):wpAny (model prog w) A (pyNext (.ref z)) Q E s:=by
 have hT:s.TypeIs (.ref z) "zip" := ⟨_,hz,rfl⟩
 exact wpAny_bind (wpAny_attempt (wpAny_callSpecial?_slot (name:=Str.ofString "__next__") hT F.slot_zip_next (wpAny_call_entry F.slot_zip_next hT F.entry_zip_next
  (zipT_item D hz hTI hTO h1 h2 t1 t2 hx hy fun h' a1 a2 a3 a4 a5 a6=>wpAny_pure (hQ h' a1 a2 a3 a4 a5 a6)) (F.args_zip_next_1 _))))
theorem pyNext_zipTEnd {z TI TO i1 i2 l1 l2:Addr} {k:Nat} {xs ys:Array Value} {a b:Value} {Q:Option Value->Shared->Prop} (hh:A.handled=none) (D:ZipApart z TI TO i1 i2 l1 l2)
  (hz:IsZip s.heap z TI TO .none) (hTI:IsPair s.heap TI (.ref i1) (.ref i2)) (hTO:IsPair s.heap TO a b) (h1:s.heap.IsTupleIter i1 l1 k) (h2:s.heap.IsTupleIter i2 l2 k) (t1:s.heap.IsTuple l1 xs) (t2:s.heap.IsTuple l2 ys) (hx:xs[k]?=none∨ys[k]?=none)
  (hQ:∀h',(∀c o,c∉[z,TO,i1,i2]->s.heap.get? c=some o->h'.get? c=some o)->Q none { s with heap:=h' }):wpAny (model prog w) A (pyNext (.ref z)) Q E s:=by
 have hT:s.TypeIs (.ref z) "zip" := ⟨_,hz,rfl⟩
 refine wpAny_bind (wpAny_attempt (wpAny_callSpecial?_slot (name:=Str.ofString "__next__") hT F.slot_zip_next (wpAny_call_entry F.slot_zip_next hT F.entry_zip_next (zipT_end hh D hz hTI hTO h1 h2 t1 t2 hx fun h' e hk ⟨o,ho,hc⟩=>?_) (F.args_zip_next_1 _))))
 exact wpAny_bind (wpAny_isInstance (T := "StopIteration") (b:=true) ⟨o,ho,hc⟩ isSubtype_stop (wpAny_pure (hQ _ hk)))
end
def zpT (h:Heap) (a b:Addr):Heap:=
 ((((h.push { cls:=.type "tuple_iterator",data:=.fields #[.ref a,.int 0 0] }).push { cls:=.type "tuple_iterator",data:=.fields #[.ref b,.int 0 0] }).push { cls:=.type "tuple",data:=.seq #[.ref h.objs.size,.ref (h.push { cls:=.type "tuple_iterator",data:=.fields #[.ref a,.int 0 0] }).objs.size] }).push { cls:=.type "tuple",data:=.seq #[.none,.none] }).push
  { cls:=.type "zip",data:=.fields #[.none,.bool false,.bool false,.ref ((h.push { cls:=.type "tuple_iterator",data:=.fields #[.ref a,.int 0 0] }).push { cls:=.type "tuple_iterator",data:=.fields #[.ref b,.int 0 0] }).objs.size,
   .ref (((h.push { cls:=.type "tuple_iterator",data:=.fields #[.ref a,.int 0 0] }).push { cls:=.type "tuple_iterator",data:=.fields #[.ref b,.int 0 0] }).push { cls:=.type "tuple",data:=.seq #[.ref h.objs.size,.ref (h.push { cls:=.type "tuple_iterator",data:=.fields #[.ref a,.int 0 0] }).objs.size] }).objs.size] }
theorem zpT_size (h:Heap) (a b:Addr):(zpT h a b).objs.size=h.objs.size+5:=by unfold zpT;rw [Heap.size_push,Heap.size_push,Heap.size_push,Heap.size_push,Heap.size_push]
theorem meetsT (l1 l2:Addr) (xs ys:Array Value):Meets (Builtin.«zip.__new__» ⟨[.type "zip",.ref l1,.ref l2],[]⟩) (fun _ R s=>s.heap.IsTuple l1 xs∧s.heap.IsTuple l2 ys∧R (.ok (.ret (.ref (s.heap.objs.size+4)))) { s with heap:=zpT s.heap l1 l2 }):=
 .of_wp fun prog w A R s h=>by
  obtain⟨hp,g,d,tk,os⟩:=s
  obtain⟨q1,q2,h⟩:=h
  have hsub:=sub_zip
  have k1:Heap.IsTuple (Shared.heap ⟨hp,g,d,tk,os⟩) l1 xs:=q1
  have k2:Heap.IsTuple (Shared.heap ⟨hp.push { cls:=.type "tuple_iterator",data:=.fields #[.ref l1,.int 0 0] },g,d,tk,os⟩) l2 ys:=Heap.IsTuple.push q2 _
  wp_walk using wpAny_pyIter_tuple k1,wpAny_pyIter_tuple k2
  refine⟨_,rfl,?_⟩
  have e:(zpT hp l1 l2).objs.size=hp.objs.size+5:=zpT_size hp l1 l2
  unfold zpT at e h
  rw [Heap.size_push] at e
  have e4:=Nat.succ.inj e
  rw [← e4] at h
  exact h
section
variable {prog:Program} {w:World} {A:Around} {E:Value->Shared->Prop} {s:Shared}
theorem call_zipT {l1 l2:Addr} {xs ys:Array Value} {Q:Value->Shared->Prop} (q1:s.heap.IsTuple l1 xs) (q2:s.heap.IsTuple l2 ys)
  (h:∀h',IsZip h' (s.heap.objs.size+4) (s.heap.objs.size+2) (s.heap.objs.size+3) .none->IsPair h' (s.heap.objs.size+2) (.ref s.heap.objs.size) (.ref (s.heap.objs.size+1))->
   IsPair h' (s.heap.objs.size+3) .none .none->h'.IsTupleIter s.heap.objs.size l1 0->h'.IsTupleIter (s.heap.objs.size+1) l2 0->(∀c o,s.heap.get? c=some o->h'.get? c=some o)->Q (.ref (s.heap.objs.size+4)) { s with heap:=h' }):
  wpAny (model prog w) A (call (.type "zip") [.ref l1,.ref l2]) Q E s:=by
 refine callType_new F.called_zip (by decide) (F.typeCall_zip_2 _ _) (F.newCall_zip_2 _ _) (fun obj=>F.args_object_init_3 obj _ _) F.entry_zip_new (meetsT l1 l2 xs ys) ⟨q1,q2,?_⟩
 obtain⟨H1,e1⟩:∃H1,H1=s.heap.push { cls:=.type "tuple_iterator",data:=.fields #[.ref l1,.int 0 0] }:=⟨_,rfl⟩
 obtain⟨H2,e2⟩:∃H2,H2=H1.push { cls:=.type "tuple_iterator",data:=.fields #[.ref l2,.int 0 0] }:=⟨_,rfl⟩
 obtain⟨H3,e3⟩:∃H3,H3=H2.push { cls:=.type "tuple",data:=.seq #[.ref s.heap.objs.size,.ref H1.objs.size] }:=⟨_,rfl⟩
 obtain⟨H4,e4⟩:∃H4,H4=H3.push { cls:=.type "tuple",data:=.seq #[.none,.none] }:=⟨_,rfl⟩
 have e5:zpT s.heap l1 l2=H4.push { cls:=.type "zip",data:=.fields #[.none,.bool false,.bool false,.ref H2.objs.size,.ref H3.objs.size] }:=by subst e4 e3 e2 e1;rfl
 have z1:H1.objs.size=s.heap.objs.size+1:=by rw [e1,Heap.size_push]
 have z2:H2.objs.size=s.heap.objs.size+2:=by rw [e2,Heap.size_push,z1]
 have z3:H3.objs.size=s.heap.objs.size+3:=by rw [e3,Heap.size_push,z2]
 have z4:H4.objs.size=s.heap.objs.size+4:=by rw [e4,Heap.size_push,z3]
 have g1:H1.get? s.heap.objs.size=some { cls:=.type "tuple_iterator",data:=.fields #[.ref l1,.int 0 0] }:=by rw [e1];exact Heap.get?_push_size _ rfl
 have g2:H2.get? H1.objs.size=some { cls:=.type "tuple_iterator",data:=.fields #[.ref l2,.int 0 0] }:=by rw [e2];exact Heap.get?_push_size _ rfl
 have g3:H3.get? H2.objs.size=some { cls:=.type "tuple",data:=.seq #[.ref s.heap.objs.size,.ref H1.objs.size] }:=by rw [e3];exact Heap.get?_push_size _ rfl
 have g4:H4.get? H3.objs.size=some { cls:=.type "tuple",data:=.seq #[.none,.none] }:=by rw [e4];exact Heap.get?_push_size _ rfl
 have u2:∀c o,H1.get? c=some o->H2.get? c=some o:=fun c o e=>by rw [e2];exact Heap.get?_push_of_some _ e
 have u3:∀c o,H2.get? c=some o->H3.get? c=some o:=fun c o e=>by rw [e3];exact Heap.get?_push_of_some _ e
 have u4:∀c o,H3.get? c=some o->H4.get? c=some o:=fun c o e=>by rw [e4];exact Heap.get?_push_of_some _ e
 have u5:∀c o,H4.get? c=some o->(zpT s.heap l1 l2).get? c=some o:=fun c o e=>by rw [e5];exact Heap.get?_push_of_some _ e
 have g5:(zpT s.heap l1 l2).get? H4.objs.size=some { cls:=.type "zip",data:=.fields #[.none,.bool false,.bool false,.ref H2.objs.size,.ref H3.objs.size] }:=by rw [e5];exact Heap.get?_push_size _ rfl
 have f1:=u5 _ _ (u4 _ _ (u3 _ _ (u2 _ _ g1)))
 have f2:=u5 _ _ (u4 _ _ (u3 _ _ g2))
 have f3:=u5 _ _ (u4 _ _ g3)
 have f4:=u5 _ _ g4
 rw [z4,z2,z3] at g5
 rw [z1] at f2
 rw [z2,z1] at f3
 rw [z3] at f4
 exact⟨⟨_,g5,rfl⟩,h _ g5 f3 f4 ⟨_,f1,rfl,rfl⟩ ⟨_,f2,rfl,rfl⟩ fun c o x=>u5 _ _ (u4 _ _ (u3 _ _ (u2 _ _ (by rw [e1];exact Heap.get?_push_of_some _ x))))⟩
end
def ItzT (K:W.Frag) (a b:Addr):It:=
 ⟨fun i H=>∃xs ys x y,SqT K H a xs∧SqT K H b ys∧xs[i]?=some x∧ys[i]?=some y,fun i H v H'=>∃p x y,H p=none∧v=.ref p∧H'=upd H p (.tup [x,y])∧(∀xs,SqT K H a xs->xs[i]?=some x)∧∀ys,SqT K H b ys->ys[i]?=some y,
  fun i H=>∃xs ys,SqT K H a xs∧SqT K H b ys∧(xs.length<=i∨ys.length<=i)⟩
theorem turn_zipT {P:Program} {w:World} {K:W.Frag} {elts:List Expr} {tk:Nat} {tpos:Pos} (a b z TI TO i1 i2:Addr) (D:ZipApart z TI TO i1 i2 a b):
  Turn P w K (.Tuple elts tk tpos) (ItzT K a b) [z,TI,TO,i1,i2] z (fun i h=>IsZip h z TI TO .none∧IsPair h TI (.ref i1) (.ref i2)∧(∃u v,IsPair h TO u v)∧h.IsTupleIter i1 a i∧h.IsTupleIter i2 b i) where
 mem:=by simp
 obj:=fun i h st c hb=>by
  obtain⟨hz,hTI,⟨u,v,hTO⟩,⟨o1,e1,c1,d1⟩,⟨o2,e2,c2,d2⟩⟩:=st
  simp only [List.mem_cons,List.not_mem_nil,or_false] at hb
  rcases hb with rfl | rfl | rfl | rfl | rfl
  ·exact⟨_,hz,fun v z=>by
    have z':Data.fields _=Data.cell v:=z
    cases z'⟩
  ·exact⟨_,hTI,fun v z=>by
    have z':Data.seq _=Data.cell v:=z
    cases z'⟩
  ·exact⟨_,hTO,fun v z=>by
    have z':Data.seq _=Data.cell v:=z
    cases z'⟩
  ·exact⟨o1,e1,fun v z=>by rw [d1] at z;cases z⟩
  ·exact⟨o2,e2,fun v z=>by rw [d2] at z;cases z⟩
 keep:=fun i h h' st k=>by
  obtain⟨hz,hTI,⟨u,v,hTO⟩,h1,h2⟩:=st
  exact⟨k z (by simp) _ hz,k TI (by simp) _ hTI,⟨u,v,k TO (by simp) _ hTO⟩,h1.at fun o q=>k i1 (by simp) o q,h2.at fun o q=>k i2 (by simp) o q⟩
 item:=by
  intro X hP hw hK hc i pins s σ H E I hf st hg
  subst hP hw hK
  obtain⟨xs,ys,x,y,hq1,hq2,hx,hy⟩:=hg
  obtain⟨its1,rv1,pl1,hz1⟩:=I.tuple hq1
  obtain⟨its2,rv2,pl2,hz2⟩:=I.tuple hq2
  obtain⟨u1,hu1,ru1⟩:=rv1.get hx
  obtain⟨u2,hu2,ru2⟩:=rv2.get hy
  obtain⟨hz,hTI,⟨_,_,hTO⟩,hit1,hit2⟩:=st
  refine pyNext_zipT D hz hTI hTO hit1 hit2 pl1 pl2 (x:=u1) (y:=u2) (by simpa using hu1) (by simpa using hu2) fun h1 ho hTO1 hi1 hi2 hT hk'=>?_
  have hk:∀c o,c≠z->c≠TO->c≠i1->c≠i2->s.heap.get? c=some o->h1.get? c=some o:=fun c o n1 n2 n3 n4 e=>hk' c o (by simp [n1,n2,n3,n4]) e
  refine⟨_,rfl,wpAny_letOwnedTupleGo_zip ho fun h2 he2 hs2=>?_⟩
  have hp:H s.heap.objs.size=none:=I.hok.fresh (Nat.le_refl _)
  have hpz:s.heap.objs.size≠z:=Nat.ne_of_gt (Heap.lt_size hz)
  have k2:∀c o,c∉[z,TI,TO,i1,i2]->s.heap.get? c=some o->h2.get? c=some o:=fun c o hb q=>
   (hs2.2 c fun e=>hb (by simp [e])).trans (hk c o (fun e=>hb (by simp [e])) (fun e=>hb (by simp [e])) (fun e=>hb (by simp [e])) (fun e=>hb (by simp [e])) q)
  have hT2:h2.get? s.heap.objs.size=some { cls:=.type "tuple",data:=.seq #[u1,u2] }:=(hs2.2 _ hpz).trans hT
  have nch:∀c u,H c=some u->c∉[z,TI,TO,i1,i2]:=fun c u q hb=>by
   rw [(hf c hb).1] at q;cases q
  have up:∀c,c < s.heap.objs.size->c≠s.heap.objs.size:=fun c hb=>Nat.ne_of_lt hb
  have I2:Inv X pins σ (upd H s.heap.objs.size (.tup [x,y])) { s with heap:=h2 }:=by
   refine I.step (g':=s.gens) (d':=s.drawn) (t':=s.toks) (ch:=[z,TI,TO,i1,i2]) (fun c hb=>?_) (fun c o _ _ hc q _=>k2 c o hc q) (fun c o _ _ hc q _=>⟨o.slots,k2 c o hc q⟩)
    (fun c o _ q n=>by rw [upd_ne (up c (Heap.lt_size q))];exact n) (fun c o hc q=>⟨o,k2 c o hc q⟩) (fun c ys q=>by rw [upd_ne (ne_of_none q hp)];exact q) (fun c o v q=>by rw [upd_ne (ne_of_none q hp)];exact q)
    (fun c ps q=>⟨#[],by rw [upd_ne (ne_of_none q hp),q];simp⟩) (fun m hm=>?_) (fun c v q=>?_) I.bare
   ·obtain⟨f0,f1,f2,f3,f4,f5⟩:=hf c hb
    exact⟨f3,f1,f4,f5⟩
   ·obtain⟨o,es,ep,q,r⟩:=hm
    refine⟨o,es,ep,k2 _ o (fun e=>?_) q,r⟩
    exact (hf _ e).2.1 rfl
   ·by_cases hb:c=s.heap.objs.size
    ·subst hb
     rw [upd_same] at q;cases q
     exact⟨by show 2<=sizeLine;decide,[u1,u2],.cons ru1 (.cons ru2 .nil),⟨_,hT2,rfl,_,rfl⟩⟩
    ·rw [upd_ne hb] at q
     refine (I.hok c v q).stay (fun c' o hc r=>k2 c' o ?_ r) (fun c' r=>by rw [upd_ne (ne_of_none r hp)];exact r) fun c' ys r=>by rw [upd_ne (ne_of_none r hp)];exact r
     rcases hc with e | e
     ·rw [e];exact nch c v q
     ·exact nch c' _ e
  refine⟨.ref s.heap.objs.size,_,I2,rfl,⟨_,x,y,hp,rfl,rfl,fun zs hz'=>by rw [I.tuple_inj hz' hq1];exact hx,fun zs hz'=>by rw [I.tuple_inj hz' hq2];exact hy⟩,
   ⟨he2,(hs2.2 TI D.TIz).trans (hk TI _ D.TIz D.TITO D.TIi1 D.TIi2 hTI),⟨_,_,(hs2.2 TO D.TOz).trans hTO1⟩,hi1.at fun o q=>(hs2.2 i1 D.i1z).trans q,hi2.at fun o q=>(hs2.2 i2 D.i2z).trans q⟩,fun c hb=>?_⟩
  have lb:c < s.heap.objs.size:=by
   simp only [List.mem_cons,List.not_mem_nil,or_false] at hb
   rcases hb with rfl | rfl | rfl | rfl | rfl
   ·exact Heap.lt_size hz
   ·exact Heap.lt_size hTI
   ·exact Heap.lt_size hTO
   ·obtain⟨_,q,_⟩:=hit1;exact Heap.lt_size q
   ·obtain⟨_,q,_⟩:=hit2;exact Heap.lt_size q
  rw [upd_ne (up c lb)]
  exact (hf c hb).1
 done:=by
  intro X hP hw hK hc i pins s σ H E I hf st hg
  subst hP hw hK
  obtain⟨xs,ys,hq1,hq2,hx⟩:=hg
  obtain⟨its1,rv1,pl1,hz1⟩:=I.tuple hq1
  obtain⟨its2,rv2,pl2,hz2⟩:=I.tuple hq2
  obtain⟨hz,hTI,⟨_,_,hTO⟩,hit1,hit2⟩:=st
  have hl1:=rv1.length
  have hl2:=rv2.length
  refine pyNext_zipTEnd (I.ok.hd hc) D hz hTI hTO hit1 hit2 pl1 pl2 (by rcases hx with e | e;exact .inl (by simp;omega);exact .inr (by simp;omega)) fun h' eb'=>⟨rfl,?_⟩
  have eb:∀c o,c≠z->c≠TO->c≠i1->c≠i2->s.heap.get? c=some o->h'.get? c=some o:=fun c o n1 n2 n3 n4 e=>eb' c o (by simp [n1,n2,n3,n4]) e
  have k2:∀c o,c∉[z,TI,TO,i1,i2]->s.heap.get? c=some o->h'.get? c=some o:=fun c o hb q=>eb c o (fun e=>hb (by simp [e])) (fun e=>hb (by simp [e])) (fun e=>hb (by simp [e])) (fun e=>hb (by simp [e])) q
  refine I.step (g':=s.gens) (d':=s.drawn) (t':=s.toks) (ch:=[z,TI,TO,i1,i2]) (fun c hb=>?_) (fun c o _ _ hc q _=>k2 c o hc q) (fun c o _ _ hc q _=>⟨o.slots,k2 c o hc q⟩)
   (fun c o _ q n=>n) (fun c o hc q=>⟨o,k2 c o hc q⟩) (fun c ys q=>q) (fun c o v q=>q) (fun c ps q=>⟨#[],by rw [q];simp⟩) (fun m hm=>?_) (fun c v q=>?_) I.bare
  ·obtain⟨f0,f1,f2,f3,f4,f5⟩:=hf c hb
   exact⟨f3,f1,f4,f5⟩
  ·obtain⟨o,es,ep,q,r⟩:=hm
   exact⟨o,es,ep,k2 _ o (fun e=>(hf _ e).2.1 rfl) q,r⟩
  ·refine (I.hok c v q).stay (fun c' o hc r=>k2 c' o ?_ r) (fun c' r=>r) fun c' ys r=>r
   have nch:∀c u,H c=some u->c∉[z,TI,TO,i1,i2]:=fun c u q hb=>by
    rw [(hf c hb).1] at q;cases q
   rcases hc with e | e
   ·rw [e];exact nch c v q
   ·exact nch c' _ e
 self:=fun _ _ _ _ _ st h=>wpAny_pyIter_zip st.1 h
section
variable {X:Cx}
def iZipB (K:W.Frag) (ta:TA):TI:=fun σ H R=>ta σ H fun vs H1=>∃a b xs ys,vs=[.ref a,.ref b]∧((SqL K H1 a xs∧SqL K H1 b ys∧R (Itz K a b) H1)∨(SqT K H1 a xs∧SqT K H1 b ys∧R (ItzT K a b) H1))
theorem a_izipB {K:W.Frag} {ta:TA} {σ:St} {H:Hp} {R:It->Hp->Prop}:iZipB K ta σ H R=ta σ H fun vs H1=>∃a b xs ys,vs=[.ref a,.ref b]∧((SqL K H1 a xs∧SqL K H1 b ys∧R (Itz K a b) H1)∨(SqT K H1 a xs∧SqT K H1 b ys∧R (ItzT K a b) H1)):=rfl
theorem pi_zipB {elts:List Expr} {tk:Nat} {tpos:Pos} {a b:Expr} {ta:TA} {p pos:Pos} (hg:Gl X "zip") (hm:X.mg "zip" = none) (ha:PA X [a,b] ta) (hs:starEach [a,b] X.env=[(false,eval a X.env),(false,eval b X.env)]:=by rfl)
  (hs2:starEach [b] X.env=[(false,eval b X.env)]:=by rfl):
  PI X (.Tuple elts tk tpos) (.Call (.Name "zip" p) [a,b] [] pos) (iZipB X.K ta):=by
 intro pins s σ H R I h
 refine Call_ (ld_blt I hg hm boot_zip (PyProof.Rows.callWith_type1 (thn (ha pos pins s σ H _ I h) fun us s1 ⟨vs,H1,I1,r1,q1⟩=>?_) (by rw [hs,hs2]) (by rw [hs2];rfl)))
 obtain⟨a,b,xs,ys,e,q1⟩:=q1
 subst e
 cases r1 with
 | cons r rr=>
  cases rr with
  | cons r' rr=>
  cases rr
  cases r
  cases r'
  have fr:∀c,c∈[s1.heap.objs.size+4,s1.heap.objs.size+2,s1.heap.objs.size+3,s1.heap.objs.size,s1.heap.objs.size+1]->s1.heap.objs.size<=c:=fun c hb=>by
   simp only [List.mem_cons,List.not_mem_nil,or_false] at hb
   rcases hb with rfl | rfl | rfl | rfl | rfl <;> omega
  rcases q1 with ⟨hq1,hq2,q⟩ | ⟨hq1,hq2,q⟩
  ·obtain⟨its1,rv1,pl1,hz1⟩:=I1.list hq1
   obtain⟨its2,rv2,pl2,hz2⟩:=I1.list hq2
   have a1:a < s1.heap.objs.size:=by obtain⟨_,e,_⟩:=pl1.isList;exact Heap.lt_size e
   have a2:b < s1.heap.objs.size:=by obtain⟨_,e,_⟩:=pl2.isList;exact Heap.lt_size e
   refine call_zip_2 pl1.isList pl2.isList fun h1 hz hTI hTO hi1 hi2 hsz hk=>wpAny_pyIter_zip hz ?_
   exact⟨_,_,_,_,H1,rfl,I1.kept (t':=s1.toks) hk,turn_zip a b _ _ _ _ _ (zipApart_new a1 a2),⟨hz,hTI,⟨_,_,hTO⟩,hi1,hi2⟩,fun c hb=>I1.fpOk (fr c hb) (I1.hok.fresh (fr c hb)),q⟩
  ·obtain⟨its1,rv1,pl1,hz1⟩:=I1.tuple hq1
   obtain⟨its2,rv2,pl2,hz2⟩:=I1.tuple hq2
   have a1:a < s1.heap.objs.size:=by obtain⟨_,e,_⟩:=pl1;exact Heap.lt_size e
   have a2:b < s1.heap.objs.size:=by obtain⟨_,e,_⟩:=pl2;exact Heap.lt_size e
   refine call_zipT pl1 pl2 fun h1 hz hTI hTO hi1 hi2 hk=>wpAny_pyIter_zip hz ?_
   exact⟨_,_,_,_,H1,rfl,I1.kept (t':=s1.toks) hk,turn_zipT a b _ _ _ _ _ (zipApart_new a1 a2),⟨hz,hTI,⟨_,_,hTO⟩,hi1,hi2⟩,fun c hb=>I1.fpOk (fr c hb) (I1.hok.fresh (fr c hb)),q⟩
end
theorem lp_zipT {K:W.Frag} {a b:Addr} {xs ys:List V} {g:TG} {tb:TS} {D:Ends} {σ:St} {H:Hp} (Pv:Nat->St->Hp->Prop) (h0:Pv 0 σ H) (hl:∀i σ H,i<=xs.length->i<=ys.length->Pv i σ H->SqT K H a xs∧SqT K H b ys)
  (hs:∀i v1 v2 p σ H,xs[i]?=some v1->ys[i]?=some v2->Pv i σ H->H p=none->g (.ref p) σ (upd H p (.tup [v1,v2])) fun σ2 H2=>tb { D with nx:=Pv (i+1),ct:=Pv (i+1),bk:=D.nx } σ2 H2)
  (hd:∀σ H,Pv (min xs.length ys.length) σ H->D.nx σ H):Loop (ItzT K a b) g tb D σ H:=by
 refine⟨fun i m σ H=>m=min xs.length ys.length - i∧i<=min xs.length ys.length∧Pv i σ H,⟨_,rfl,Nat.zero_le _,h0⟩,?_⟩
 rintro i m σ H ⟨rfl,hi,p⟩
 obtain⟨q1,q2⟩:=hl i σ H (by omega) (by omega) p
 by_cases hlt:i < min xs.length ys.length
 ·have l1:i < xs.length:=by omega
  have l2:i < ys.length:=by omega
  refine .inr ⟨⟨xs,ys,xs[i],ys[i],q1,q2,List.getElem?_eq_getElem l1,List.getElem?_eq_getElem l2⟩,Pv (i+1),fun σ' H' p'=>⟨min xs.length ys.length - (i+1),by omega,rfl,hlt,p'⟩,fun x H' y=>?_⟩
  obtain⟨pa,x1,x2,hn,e1,e2,y1,y2⟩:=y
  subst e1 e2
  exact hs i x1 x2 pa σ H (y1 xs q1) (y2 ys q2) p hn
 ·have e:i=min xs.length ys.length:=by omega
  rw [e] at p
  exact .inl ⟨⟨xs,ys,q1,q2,by omega⟩,hd σ H p⟩
abbrev IsTrip (h:Heap) (T:Addr) (a b c:Value):Prop:=h.get? T=some { cls:=.type "tuple",data:=.seq #[a,b,c] }
structure Zip3 (z TI TO i1 i2 i3 l1 l2 l3:Addr):Prop where
 TIz:TI≠z
 TOz:TO≠z
 i1z:i1≠z
 i2z:i2≠z
 i3z:i3≠z
 TITO:TI≠TO
 TIi1:TI≠i1
 TIi2:TI≠i2
 TIi3:TI≠i3
 TOi1:TO≠i1
 TOi2:TO≠i2
 TOi3:TO≠i3
 i12:i1≠i2
 i13:i1≠i3
 i23:i2≠i3
 l1z:l1≠z
 l2z:l2≠z
 l3z:l3≠z
 l2TO:l2≠TO
 l3TO:l3≠TO
 l2i1:l2≠i1
 l3i1:l3≠i1
 l3i2:l3≠i2
theorem zip3_new {n l1 l2 l3:Addr} (h1:l1 < n) (h2:l2 < n) (h3:l3 < n):Zip3 (n+5) (n+3) (n+4) n (n+1) (n+2) l1 l2 l3:=by
 constructor <;> (intro h;have h':(_:Nat)=(_:Nat):=h;simp only [Addr] at *;omega)
section
variable {prog:Program} {w:World} {A:Around} {E:Value->Shared->Prop} {s:Shared}
theorem updateSeq_trip {T:Addr} {a b c x:Value} {k:Nat} {Q:Unit->Shared->Prop} (hT:IsTrip s.heap T a b c)
  (h:∀h',h'.get? T=some { cls:=.type "tuple",data:=.seq ((#[a,b,c]:Array Value).setIfInBounds k x) }->Heap.SameBut T s.heap h'->Q () { s with heap:=h' }):
  wpAny (model prog w) A (updateSeq T (·.setIfInBounds k x)) Q E s:=by
 refine wpAny_updateSeq hT rfl (h _ ?_ (Heap.SameBut.update ..))
 rw [Heap.get?_update_self _ hT rfl]
 simp [Obj.mapSeq]
theorem zip3_item {z TI TO i1 i2 i3 l1 l2 l3:Addr} {k:Nat} {xs ys zs:Array Value} {x y v a b c:Value} {Q:Value->Shared->Prop} (D:Zip3 z TI TO i1 i2 i3 l1 l2 l3)
  (hz:IsZip s.heap z TI TO .none) (hTI:IsTrip s.heap TI (.ref i1) (.ref i2) (.ref i3)) (hTO:IsTrip s.heap TO a b c) (h1:s.heap.IsTupleIter i1 l1 k) (h2:s.heap.IsTupleIter i2 l2 k) (h3:s.heap.IsTupleIter i3 l3 k)
  (t1:s.heap.IsTuple l1 xs) (t2:s.heap.IsTuple l2 ys) (t3:s.heap.IsTuple l3 zs) (hx:xs[k]?=some x) (hy:ys[k]?=some y) (hv:zs[k]?=some v)
  (hQ:∀h',IsZip h' z TI TO (rawInt s.heap.objs.size)->IsTrip h' TO x y v->h'.IsTupleIter i1 l1 (k+1)->h'.IsTupleIter i2 l2 (k+1)->h'.IsTupleIter i3 l3 (k+1)->IsTrip h' s.heap.objs.size x y v->
   (∀c o,c∉[z,TO,i1,i2,i3]->s.heap.get? c=some o->h'.get? c=some o)->Q (.ref s.heap.objs.size) { s with heap:=h' }):
  wpAny (model prog w) A (Builtin.«zip.__next__» ⟨[.ref z],[]⟩) (fun fin s'=>∃v,fin=.done (.ret v)∧Q v s') E s:=by
 refine wpAny_bind (m:=field (.ref z) 2) (wpAny_field hz rfl (x:=.bool false) rfl ?_)
 refine wpAny_bind (m:=field (.ref z) 3) (wpAny_field hz rfl (x:=.ref TI) rfl (wpAny_bind (wpAny_seqItems hTI rfl ?_)))
 refine wpAny_bind (m:=Builtin.SmallTypes.ownedTupleIsFree (.ref z)) (wpAny_bind (m:=field (.ref z) 0) (wpAny_field hz rfl (x:=.none) rfl (wpAny_pure ?_)))
 simp only [if_true]
 refine wpAny_bind (wpAny_rule (wpAny_bind (wpAny_field hz rfl (x:=.ref TO) rfl (wpAny_bind (wpAny_setField_rec hz (by simp) fun g₁ z₁ c₁=>wpAny_bind ?_)))))
 replace z₁:IsZip g₁ z TI TO .ellipsis:=z₁
 simp only [List.zipIdx_cons,List.zipIdx_nil,List.forIn_cons,List.forIn_nil]
 have b₁:=c₁.extBut
 refine wpAny_bind (wpAny_bind (wpAny_onRaise (wpAny_bind (m:=Builtin.SmallTypes.nextOf (.ref i1)) (nxT_item (h1.extBut b₁ D.i1z) (t1.extBut b₁ D.l1z) hx fun g₂ j₂ c₂=>wpAny_pure ?_))))
 have b₂:=c₂.extBut
 have o₂:IsTrip g₂ TO a b c:=b₂ _ _ D.TOi1 (b₁ _ _ D.TOz hTO)
 refine wpAny_bind (wpAny_seqItems o₂ rfl (wpAny_bind (updateSeq_trip o₂ fun g₃ o₃ c₃=>wpAny_bind (wpAny_letGo (wpAny_pure ?_)))))
 replace o₃:IsTrip g₃ TO x b c:=o₃
 have b₃:=c₃.extBut
 have e2:∀c o,c≠z->c≠i1->c≠TO->s.heap.get? c=some o->g₃.get? c=some o:=fun c o n1 n2 n3 e=>b₃ _ _ n3 (b₂ _ _ n2 (b₁ _ _ n1 e))
 refine wpAny_bind (wpAny_bind (wpAny_onRaise (wpAny_bind (m:=Builtin.SmallTypes.nextOf (.ref i2)) (nxT_item (s:={ s with heap:=g₃ }) (h2.at fun o e=>e2 _ o D.i2z D.i12.symm D.TOi2.symm e) (t2.at fun o e=>e2 _ o D.l2z D.l2i1 D.l2TO e) hy fun g₄ j₄ c₄=>wpAny_pure ?_))))
 have b₄:=c₄.extBut
 have o₄:IsTrip g₄ TO x b c:=b₄ _ _ D.TOi2 o₃
 refine wpAny_bind (wpAny_seqItems o₄ rfl (wpAny_bind (updateSeq_trip o₄ fun g₅ o₅ c₅=>wpAny_bind (wpAny_letGo (wpAny_pure ?_)))))
 replace o₅:IsTrip g₅ TO x y c:=o₅
 have b₅:=c₅.extBut
 have e3:∀c o,c≠z->c≠i1->c≠TO->c≠i2->s.heap.get? c=some o->g₅.get? c=some o:=fun c o n1 n2 n3 n4 e=>b₅ _ _ n3 (b₄ _ _ n4 (e2 c o n1 n2 n3 e))
 refine wpAny_bind (wpAny_bind (wpAny_onRaise (wpAny_bind (m:=Builtin.SmallTypes.nextOf (.ref i3)) (nxT_item (s:={ s with heap:=g₅ }) (h3.at fun o e=>e3 _ o D.i3z D.i13.symm D.TOi3.symm D.i23.symm e) (t3.at fun o e=>e3 _ o D.l3z D.l3i1 D.l3TO D.l3i2 e) hv fun g₆ j₆ c₆=>wpAny_pure ?_))))
 have b₆:=c₆.extBut
 have o₆:IsTrip g₆ TO x y c:=b₆ _ _ D.TOi3 o₅
 refine wpAny_bind (wpAny_seqItems o₆ rfl (wpAny_bind (updateSeq_trip o₆ fun g₇ o₇ c₇=>wpAny_bind (wpAny_letGo (wpAny_pure (wpAny_pure (wpAny_bind ?_)))))))
 replace o₇:IsTrip g₇ TO x y v:=o₇
 have b₇:=c₇.extBut
 refine wpAny_seqItems o₇ rfl (wpAny_bind (wpAny_newTuple ?_))
 have sz:g₇.objs.size=s.heap.objs.size:=by rw [c₇.1,c₆.1,c₅.1,c₄.1,c₃.1,c₂.1,c₁.1]
 have z₇:IsZip g₇ z TI TO .ellipsis:=b₇ _ _ D.TOz.symm (b₆ _ _ D.i3z.symm (b₅ _ _ D.TOz.symm (b₄ _ _ D.i2z.symm (b₃ _ _ D.TOz.symm (b₂ _ _ D.i1z.symm z₁)))))
 have j₁:g₇.IsTupleIter i1 l1 (k+1):=j₂.at fun o e=>b₇ _ _ D.TOi1.symm (b₆ _ _ D.i13 (b₅ _ _ D.TOi1.symm (b₄ _ _ D.i12 (b₃ _ _ D.TOi1.symm e))))
 have j₅:g₇.IsTupleIter i2 l2 (k+1):=j₄.at fun o e=>b₇ _ _ D.TOi2.symm (b₆ _ _ D.i23 (b₅ _ _ D.TOi2.symm e))
 have j₇:g₇.IsTupleIter i3 l3 (k+1):=j₆.at fun o e=>b₇ _ _ D.TOi3.symm e
 have lz:z < g₇.objs.size:=Heap.lt_size z₇
 refine wpAny_bind (m:=Builtin.SmallTypes.ownedTupleHandOut (.ref z) (.ref g₇.objs.size)) (wpAny_bind (wpAny_setField_rec (Heap.get?_push_of_some _ z₇) (by simp) fun g₈ z₈ c₈=>?_))
 replace z₈:IsZip g₈ z TI TO (rawInt g₇.objs.size):=z₈
 refine wpAny_setField_rec z₈ (by simp) fun g₉ z₉ c₉=>?_
 replace z₉:IsZip g₉ z TI TO (rawInt g₇.objs.size):=z₉
 have up:∀c o,c≠z->(g₇.push { cls:=.type "tuple",data:=.seq #[x,y,v] }).get? c=some o->g₉.get? c=some o:=fun c o n e=>c₉.extBut _ _ n (c₈.extBut _ _ n e)
 have T₉:IsTrip g₉ g₇.objs.size x y v:=up _ _ (Nat.ne_of_gt lz) (Heap.get?_push_size _ rfl)
 have up7:∀c o,c≠z->g₇.get? c=some o->g₉.get? c=some o:=fun c o n e=>up c o n (Heap.get?_push_of_some _ e)
 refine wpAny_pure ⟨_,rfl,?_⟩
 show Q (.ref g₇.objs.size) _
 rw [sz] at z₉ T₉ ⊢
 refine hQ g₉ z₉ (up7 _ _ D.TOz o₇) (j₁.at fun o e=>up7 _ o D.i1z e) (j₅.at fun o e=>up7 _ o D.i2z e) (j₇.at fun o e=>up7 _ o D.i3z e) T₉ fun c o hc e=>?_
 have n1:c≠z:=fun h=>hc (by simp [h])
 have n2:c≠TO:=fun h=>hc (by simp [h])
 have n3:c≠i1:=fun h=>hc (by simp [h])
 have n4:c≠i2:=fun h=>hc (by simp [h])
 have n5:c≠i3:=fun h=>hc (by simp [h])
 exact up7 c o n1 (b₇ _ _ n2 (b₆ _ _ n5 (e3 c o n1 n3 n2 n4 e)))
theorem zip3_end {z TI TO i1 i2 i3 l1 l2 l3:Addr} {k:Nat} {xs:Array Value} {a b c:Value} {Q:Fin->Shared->Prop} (hh:A.handled=none) (D:Zip3 z TI TO i1 i2 i3 l1 l2 l3)
  (hz:IsZip s.heap z TI TO .none) (hTI:IsTrip s.heap TI (.ref i1) (.ref i2) (.ref i3)) (h1:s.heap.IsTupleIter i1 l1 k) (t1:s.heap.IsTuple l1 xs) (hx:xs[k]?=none)
  (hE:∀h' e,(∀c o,c∉[z,TO,i1,i2,i3]->s.heap.get? c=some o->h'.get? c=some o)->(∃o,h'.get? e=some o∧o.cls=.type "StopIteration")->E (.ref e) { s with heap:=h' }):
  wpAny (model prog w) A (Builtin.«zip.__next__» ⟨[.ref z],[]⟩) Q E s:=by
 refine wpAny_bind (m:=field (.ref z) 2) (wpAny_field hz rfl (x:=.bool false) rfl ?_)
 refine wpAny_bind (m:=field (.ref z) 3) (wpAny_field hz rfl (x:=.ref TI) rfl (wpAny_bind (wpAny_seqItems hTI rfl ?_)))
 refine wpAny_bind (m:=Builtin.SmallTypes.ownedTupleIsFree (.ref z)) (wpAny_bind (m:=field (.ref z) 0) (wpAny_field hz rfl (x:=.none) rfl (wpAny_pure ?_)))
 simp only [if_true]
 refine wpAny_bind (wpAny_rule (wpAny_bind (wpAny_field hz rfl (x:=.ref TO) rfl (wpAny_bind (wpAny_setField_rec hz (by simp) fun g₁ z₁ c₁=>wpAny_bind ?_)))))
 replace z₁:IsZip g₁ z TI TO .ellipsis:=z₁
 simp only [List.zipIdx_cons,List.zipIdx_nil,List.forIn_cons,List.forIn_nil]
 have b₁:=c₁.extBut
 have nz:∀{g:Heap} {e:Addr} {o:Obj},IsZip g z TI TO .ellipsis->g.get? e=some o->o.cls=.type "StopIteration" -> e≠z:=fun {g e o} q r c h=>by
  subst h
  rw [q] at r;cases r;simp at c
 refine wpAny_bind (wpAny_bind (wpAny_onRaise (wpAny_bind (m:=Builtin.SmallTypes.nextOf (.ref i1)) (nxT_end hh (h1.extBut b₁ D.i1z) (t1.extBut b₁ D.l1z) hx fun g₂ e b₂ ⟨oe,he,ce⟩=>?_))))
 have z₂:IsZip g₂ z TI TO .ellipsis:=b₂ _ _ D.i1z.symm z₁
 refine wpAny_setField_rec z₂ (by simp) fun g₃ _ c₃=>hE g₃ e (fun c o hc q=>?_) ⟨oe,c₃.extBut _ _ (nz z₂ he ce) he,ce⟩
 exact c₃.extBut _ _ (fun h=>hc (by simp [h])) (b₂ _ _ (fun h=>hc (by simp [h])) (b₁ _ _ (fun h=>hc (by simp [h])) q))
theorem pyNext_zip3 {z TI TO i1 i2 i3 l1 l2 l3:Addr} {k:Nat} {xs ys zs:Array Value} {x y v a b c:Value} {Q:Option Value->Shared->Prop} (D:Zip3 z TI TO i1 i2 i3 l1 l2 l3)
  (hz:IsZip s.heap z TI TO .none) (hTI:IsTrip s.heap TI (.ref i1) (.ref i2) (.ref i3)) (hTO:IsTrip s.heap TO a b c) (h1:s.heap.IsTupleIter i1 l1 k) (h2:s.heap.IsTupleIter i2 l2 k) (h3:s.heap.IsTupleIter i3 l3 k)
  (t1:s.heap.IsTuple l1 xs) (t2:s.heap.IsTuple l2 ys) (t3:s.heap.IsTuple l3 zs) (hx:xs[k]?=some x) (hy:ys[k]?=some y) (hv:zs[k]?=some v)
  (hQ:∀h',IsZip h' z TI TO (rawInt s.heap.objs.size)->IsTrip h' TO x y v->h'.IsTupleIter i1 l1 (k+1)->h'.IsTupleIter i2 l2 (k+1)->h'.IsTupleIter i3 l3 (k+1)->IsTrip h' s.heap.objs.size x y v->
   (∀c o,c∉[z,TO,i1,i2,i3]->s.heap.get? c=some o->h'.get? c=some o)->Q (some (.ref s.heap.objs.size)) { s with heap:=h' }):wpAny (model prog w) A (pyNext (.ref z)) Q E s:=by
 have hT:s.TypeIs (.ref z) "zip" := ⟨_,hz,rfl⟩
 exact wpAny_bind (wpAny_attempt (wpAny_callSpecial?_slot (name:=Str.ofString "__next__") hT F.slot_zip_next (wpAny_call_entry F.slot_zip_next hT F.entry_zip_next
  (zip3_item D hz hTI hTO h1 h2 h3 t1 t2 t3 hx hy hv fun h' a1 a2 a3 a4 a5 a6 a7=>wpAny_pure (hQ h' a1 a2 a3 a4 a5 a6 a7)) (F.args_zip_next_1 _))))
theorem pyNext_zip3End {z TI TO i1 i2 i3 l1 l2 l3:Addr} {k:Nat} {xs:Array Value} {Q:Option Value->Shared->Prop} (hh:A.handled=none) (D:Zip3 z TI TO i1 i2 i3 l1 l2 l3)
  (hz:IsZip s.heap z TI TO .none) (hTI:IsTrip s.heap TI (.ref i1) (.ref i2) (.ref i3)) (h1:s.heap.IsTupleIter i1 l1 k) (t1:s.heap.IsTuple l1 xs) (hx:xs[k]?=none)
  (hQ:∀h',(∀c o,c∉[z,TO,i1,i2,i3]->s.heap.get? c=some o->h'.get? c=some o)->Q none { s with heap:=h' }):wpAny (model prog w) A (pyNext (.ref z)) Q E s:=by
 have hT:s.TypeIs (.ref z) "zip" := ⟨_,hz,rfl⟩
 refine wpAny_bind (wpAny_attempt (wpAny_callSpecial?_slot (name:=Str.ofString "__next__") hT F.slot_zip_next (wpAny_call_entry F.slot_zip_next hT F.entry_zip_next (zip3_end (a:=.none) (b:=.none) (c:=.none) hh D hz hTI h1 t1 hx fun h' e hk ⟨o,ho,hc⟩=>?_) (F.args_zip_next_1 _))))
 exact wpAny_bind (wpAny_isInstance (T := "StopIteration") (b:=true) ⟨o,ho,hc⟩ isSubtype_stop (wpAny_pure (hQ _ hk)))
end
def zp3 (h:Heap) (a b c:Addr):Heap:=
 (((((h.push { cls:=.type "tuple_iterator",data:=.fields #[.ref a,.int 0 0] }).push { cls:=.type "tuple_iterator",data:=.fields #[.ref b,.int 0 0] }).push { cls:=.type "tuple_iterator",data:=.fields #[.ref c,.int 0 0] }).push
  { cls:=.type "tuple",data:=.seq #[.ref h.objs.size,.ref (h.push { cls:=.type "tuple_iterator",data:=.fields #[.ref a,.int 0 0] }).objs.size,.ref ((h.push { cls:=.type "tuple_iterator",data:=.fields #[.ref a,.int 0 0] }).push { cls:=.type "tuple_iterator",data:=.fields #[.ref b,.int 0 0] }).objs.size] }).push { cls:=.type "tuple",data:=.seq #[.none,.none,.none] }).push
  { cls:=.type "zip",data:=.fields #[.none,.bool false,.bool false,.ref (((h.push { cls:=.type "tuple_iterator",data:=.fields #[.ref a,.int 0 0] }).push { cls:=.type "tuple_iterator",data:=.fields #[.ref b,.int 0 0] }).push { cls:=.type "tuple_iterator",data:=.fields #[.ref c,.int 0 0] }).objs.size,
   .ref ((((h.push { cls:=.type "tuple_iterator",data:=.fields #[.ref a,.int 0 0] }).push { cls:=.type "tuple_iterator",data:=.fields #[.ref b,.int 0 0] }).push { cls:=.type "tuple_iterator",data:=.fields #[.ref c,.int 0 0] }).push { cls:=.type "tuple",data:=.seq #[.ref h.objs.size,.ref (h.push { cls:=.type "tuple_iterator",data:=.fields #[.ref a,.int 0 0] }).objs.size,.ref ((h.push { cls:=.type "tuple_iterator",data:=.fields #[.ref a,.int 0 0] }).push { cls:=.type "tuple_iterator",data:=.fields #[.ref b,.int 0 0] }).objs.size] }).objs.size] }
theorem zp3_size (h:Heap) (a b c:Addr):(zp3 h a b c).objs.size=h.objs.size+6:=by unfold zp3;rw [Heap.size_push,Heap.size_push,Heap.size_push,Heap.size_push,Heap.size_push,Heap.size_push]
theorem meets3 (l1 l2 l3:Addr) (xs ys zs:Array Value):Meets (Builtin.«zip.__new__» ⟨[.type "zip",.ref l1,.ref l2,.ref l3],[]⟩) (fun _ R s=>s.heap.IsTuple l1 xs∧s.heap.IsTuple l2 ys∧s.heap.IsTuple l3 zs∧R (.ok (.ret (.ref (s.heap.objs.size+5)))) { s with heap:=zp3 s.heap l1 l2 l3 }):=
 .of_wp fun prog w A R s h=>by
  obtain⟨hp,g,d,tk,os⟩:=s
  obtain⟨q1,q2,q3,h⟩:=h
  have hsub:=sub_zip
  have k1:Heap.IsTuple (Shared.heap ⟨hp,g,d,tk,os⟩) l1 xs:=q1
  have k2:Heap.IsTuple (Shared.heap ⟨hp.push { cls:=.type "tuple_iterator",data:=.fields #[.ref l1,.int 0 0] },g,d,tk,os⟩) l2 ys:=Heap.IsTuple.push q2 _
  have k3:Heap.IsTuple (Shared.heap ⟨(hp.push { cls:=.type "tuple_iterator",data:=.fields #[.ref l1,.int 0 0] }).push { cls:=.type "tuple_iterator",data:=.fields #[.ref l2,.int 0 0] },g,d,tk,os⟩) l3 zs:=Heap.IsTuple.push (Heap.IsTuple.push q3 _) _
  wp_walk using wpAny_pyIter_tuple k1,wpAny_pyIter_tuple k2,wpAny_pyIter_tuple k3
  refine⟨_,rfl,?_⟩
  have e:(zp3 hp l1 l2 l3).objs.size=hp.objs.size+6:=zp3_size hp l1 l2 l3
  unfold zp3 at e h
  rw [Heap.size_push] at e
  have e4:=Nat.succ.inj e
  rw [← e4] at h
  exact h
theorem tc_zip_3 (a b c:Value):checkTypeCall "zip" ⟨[a,b,c],[]⟩=pure ():=by kernel_rfl
theorem nc_zip_3 (a b c:Value):checkBuiltinCall "zip.__new__" ⟨[.type "zip",a,b,c],[]⟩=pure ():=by kernel_rfl
theorem ao_init_4 (a b c d:Value):argsOk "object.__init__" ⟨[a,b,c,d],[]⟩:=by
 unfold argsOk;rw [signature?_of (id := "object.__init__") (n:=['_','_','t','i','n','i','_','_']) (o:=['t','c','e','j','b','o']) (by kernel_rfl) F.owner_object];kernel_rfl
section
variable {prog:Program} {w:World} {A:Around} {E:Value->Shared->Prop} {s:Shared}
theorem call_zip3 {l1 l2 l3:Addr} {xs ys zs:Array Value} {Q:Value->Shared->Prop} (q1:s.heap.IsTuple l1 xs) (q2:s.heap.IsTuple l2 ys) (q3:s.heap.IsTuple l3 zs)
  (h:∀h',IsZip h' (s.heap.objs.size+5) (s.heap.objs.size+3) (s.heap.objs.size+4) .none->IsTrip h' (s.heap.objs.size+3) (.ref s.heap.objs.size) (.ref (s.heap.objs.size+1)) (.ref (s.heap.objs.size+2))->
   IsTrip h' (s.heap.objs.size+4) .none .none .none->h'.IsTupleIter s.heap.objs.size l1 0->h'.IsTupleIter (s.heap.objs.size+1) l2 0->h'.IsTupleIter (s.heap.objs.size+2) l3 0->(∀c o,s.heap.get? c=some o->h'.get? c=some o)->Q (.ref (s.heap.objs.size+5)) { s with heap:=h' }):
  wpAny (model prog w) A (call (.type "zip") [.ref l1,.ref l2,.ref l3]) Q E s:=by
 refine callType_new F.called_zip (by decide) (tc_zip_3 _ _ _) (nc_zip_3 _ _ _) (fun obj=>ao_init_4 obj _ _ _) F.entry_zip_new (meets3 l1 l2 l3 xs ys zs) ⟨q1,q2,q3,?_⟩
 obtain⟨H1,e1⟩:∃H1,H1=s.heap.push { cls:=.type "tuple_iterator",data:=.fields #[.ref l1,.int 0 0] }:=⟨_,rfl⟩
 obtain⟨H2,e2⟩:∃H2,H2=H1.push { cls:=.type "tuple_iterator",data:=.fields #[.ref l2,.int 0 0] }:=⟨_,rfl⟩
 obtain⟨H2',e2'⟩:∃H2',H2'=H2.push { cls:=.type "tuple_iterator",data:=.fields #[.ref l3,.int 0 0] }:=⟨_,rfl⟩
 obtain⟨H3,e3⟩:∃H3,H3=H2'.push { cls:=.type "tuple",data:=.seq #[.ref s.heap.objs.size,.ref H1.objs.size,.ref H2.objs.size] }:=⟨_,rfl⟩
 obtain⟨H4,e4⟩:∃H4,H4=H3.push { cls:=.type "tuple",data:=.seq #[.none,.none,.none] }:=⟨_,rfl⟩
 have e5:zp3 s.heap l1 l2 l3=H4.push { cls:=.type "zip",data:=.fields #[.none,.bool false,.bool false,.ref H2'.objs.size,.ref H3.objs.size] }:=by subst e4 e3 e2' e2 e1;rfl
 have z1:H1.objs.size=s.heap.objs.size+1:=by rw [e1,Heap.size_push]
 have z2:H2.objs.size=s.heap.objs.size+2:=by rw [e2,Heap.size_push,z1]
 have z2':H2'.objs.size=s.heap.objs.size+3:=by rw [e2',Heap.size_push,z2]
 have z3:H3.objs.size=s.heap.objs.size+4:=by rw [e3,Heap.size_push,z2']
 have z4:H4.objs.size=s.heap.objs.size+5:=by rw [e4,Heap.size_push,z3]
 have g1:H1.get? s.heap.objs.size=some { cls:=.type "tuple_iterator",data:=.fields #[.ref l1,.int 0 0] }:=by rw [e1];exact Heap.get?_push_size _ rfl
 have g2:H2.get? H1.objs.size=some { cls:=.type "tuple_iterator",data:=.fields #[.ref l2,.int 0 0] }:=by rw [e2];exact Heap.get?_push_size _ rfl
 have g2':H2'.get? H2.objs.size=some { cls:=.type "tuple_iterator",data:=.fields #[.ref l3,.int 0 0] }:=by rw [e2'];exact Heap.get?_push_size _ rfl
 have g3:H3.get? H2'.objs.size=some { cls:=.type "tuple",data:=.seq #[.ref s.heap.objs.size,.ref H1.objs.size,.ref H2.objs.size] }:=by rw [e3];exact Heap.get?_push_size _ rfl
 have g4:H4.get? H3.objs.size=some { cls:=.type "tuple",data:=.seq #[.none,.none,.none] }:=by rw [e4];exact Heap.get?_push_size _ rfl
 have u2:∀c o,H1.get? c=some o->H2.get? c=some o:=fun c o e=>by rw [e2];exact Heap.get?_push_of_some _ e
 have u2':∀c o,H2.get? c=some o->H2'.get? c=some o:=fun c o e=>by rw [e2'];exact Heap.get?_push_of_some _ e
 have u3:∀c o,H2'.get? c=some o->H3.get? c=some o:=fun c o e=>by rw [e3];exact Heap.get?_push_of_some _ e
 have u4:∀c o,H3.get? c=some o->H4.get? c=some o:=fun c o e=>by rw [e4];exact Heap.get?_push_of_some _ e
 have u5:∀c o,H4.get? c=some o->(zp3 s.heap l1 l2 l3).get? c=some o:=fun c o e=>by rw [e5];exact Heap.get?_push_of_some _ e
 have g5:(zp3 s.heap l1 l2 l3).get? H4.objs.size=some { cls:=.type "zip",data:=.fields #[.none,.bool false,.bool false,.ref H2'.objs.size,.ref H3.objs.size] }:=by rw [e5];exact Heap.get?_push_size _ rfl
 have f1:=u5 _ _ (u4 _ _ (u3 _ _ (u2' _ _ (u2 _ _ g1))))
 have f2:=u5 _ _ (u4 _ _ (u3 _ _ (u2' _ _ g2)))
 have f2':=u5 _ _ (u4 _ _ (u3 _ _ g2'))
 have f3:=u5 _ _ (u4 _ _ g3)
 have f4:=u5 _ _ g4
 rw [z4,z2',z3] at g5
 rw [z1] at f2
 rw [z2] at f2'
 rw [z2',z1,z2] at f3
 rw [z3] at f4
 exact⟨⟨_,g5,rfl⟩,h _ g5 f3 f4 ⟨_,f1,rfl,rfl⟩ ⟨_,f2,rfl,rfl⟩ ⟨_,f2',rfl,rfl⟩ fun c o x=>u5 _ _ (u4 _ _ (u3 _ _ (u2' _ _ (u2 _ _ (by rw [e1];exact Heap.get?_push_of_some _ x)))))⟩
end
@[reducible] def blk3 (X:Cx) (x z z3:Str) (fv:List (Nat×Str)) (scope:Scope) (cl:List (Str×Addr)) (C:Addr) (s:Shared) (H:Hp) (fp:List Addr):Cx where
 prog:=X.prog
 w:=X.w
 K:=X.K
 mg:=X.mg
 base:=X.base
 A:=X.A
 N:=x :: z :: z3 :: fv.map (·.2)
 s₀:=s
 H₀:=H
 env:=compEnvC scope cl C X.env
 outer:=X.stack
 stack:=X.stack
 ex:=fp
 fn:=fun _=>false
 calm:=X.calm
 pn:=[]
 xe:=fun _ _=>False
def bst3 (fv:List (Nat×Str)) (σ:St) (v v2 v3:Option V):St:=v :: v2 :: v3 :: fv.map fun p=>(σ[p.1]?).getD none
structure BlkOk3 (X:Cx) (x z z3:Str) (fv:List (Nat×Str)) (scope:Scope) (cl:List (Str×Addr)):Prop where
 clos:closureFor scope X.env=pure cl
 nocell:∀y∈scope.names,y.2≠.cell
 kind:scope.kind=.function
 names:∀y∈scope.names,y.2=.local->scope.names.lookup y.1=some .local
 here:scope.names.lookup x=some .local
 here2:scope.names.lookup z=some .local
 here3:scope.names.lookup z3=some .local
 nd:(x :: z :: z3 :: fv.map (·.2)).Nodup
 sub:∀y c,cl.lookup y=some c->X.env.cells.lookup y=some c
 has:∀y,((relabel scope X.env).names.lookup y=some .cell∨(relabel scope X.env).names.lookup y=some .free)->∃c,cl.lookup y=some c
 fvs:∀p∈fv,X.N[p.1]?=some p.2∧(X.env.scope.names.lookup p.2=some .cell∨X.env.scope.names.lookup p.2=some .free)∧
  ((relabel scope X.env).names.lookup p.2=some .cell∨(relabel scope X.env).names.lookup p.2=some .free)∧∃c,cl.lookup p.2=some c
section
variable {X:Cx} {elt iter:Expr} {x z z3:Str} {px pz p3:Pos} {tk:Nat} {tpos:Pos} {fv:List (Nat×Str)} {scope:Scope} {cl:List (Str×Addr)} {pos:Pos} {te:TE} {wi:TI}
theorem blk_ok3 {pins:List (Addr×Obj)} {σ:St} {H:Hp} {s:Shared} {fp:List Addr} {C:Addr} (B:BlkOk3 X x z z3 fv scope cl) (I:Inv X pins σ H s) (hf:∀b∈fp,FpOk X pins H b) (hC:s.heap.objs.size<=C) (hfC:∀b∈fp,b≠C):
  (blk3 X x z z3 fv scope cl C s H fp).Ok where
 mod:=I.ok.mod
 kind:=B.kind
 glob:=I.ok.glob
 blt:=I.ok.blt
 above:=hC
 inj:=fun y y' c h1 h2=>I.ok.inj y y' c (B.sub y c h1) (B.sub y' c h2)
 has:=fun y hy=>B.has y hy
 cab:=fun y c h=>nomatch h
 hd:=I.ok.hd
 frames:=I.ok.frames
 stk:=.inl rfl
 exf:=fun b hb=>⟨hfC b hb,fun y c e=>(hf b hb).2.2.2.2.1 y c (B.sub y c e)⟩
 bs:=I.bs
 bsz:=Nat.le_trans I.ok.bsz I.sz
 noex:=fun b o e hb=>by
  obtain⟨_,_,_,f3,_⟩:=hf b hb
  rcases f3 with z' | z'
  ·exact I.ok.noex b o e z'
  ·exact absurd (Nat.lt_of_lt_of_le (Heap.lt_size e) (Nat.le_trans I.ok.bsz z')) (Nat.lt_irrefl _)
 exfs:=fun b hb hs=>by
  obtain⟨_,f1,f2,_⟩:=hf b hb
  rcases List.mem_cons.mp (I.stkSub b hs) with z | z
  ·exact f1 z
  ·exact f2 z
 funs:=I.stack
 frf:=I.stkFree
theorem bst_get3 {fv:List (Nat×Str)} {σ:St} {o o2 o3:Option V} {j:Nat} {y:Str} {v:V} (h1:(x :: z :: z3 :: fv.map (·.2))[j+3]?=some y) (h2:(bst3 fv σ o o2 o3)[j+3]?=some (some v)):∃p∈fv,p.2=y∧σ[p.1]?=some (some v):=by
 have e1:(fv.map (·.2))[j]?=some y:=by simpa using h1
 have e2:(fv.map fun p=>(σ[p.1]?).getD none)[j]?=some (some v):=by simpa [bst3] using h2
 rw [List.getElem?_map] at e1 e2
 cases q:fv[j]? with
 | none=>rw [q] at e1;cases e1
 | some p=>
  rw [q] at e1 e2
  refine⟨p,List.mem_of_getElem? q,Option.some.inj e1,?_⟩
  have e3:(σ[p.1]?).getD none=some v:=Option.some.inj e2
  cases r:σ[p.1]? with
  | none=>rw [r] at e3;cases e3
  | some w=>rw [r] at e3;exact congrArg some e3
theorem blk_start3 {pins:List (Addr×Obj)} {σ:St} {H:Hp} {s s4:Shared} {fp:List Addr} {C:Addr} {m:Str->Option Value} (B:BlkOk3 X x z z3 fv scope cl) (I:Inv X pins σ H s) (hf:∀b∈fp,FpOk X pins H b) (hC:C=s.heap.objs.size)
  (hfC:∀b∈fp,b≠C) (os:s4.os=s.os) (gens:s4.gens=s.gens) (keep:∀b o,s.heap.get? b=some o->s4.heap.get? b=some o) (ns:s4.heap.Ns C m):
  Inv (blk3 X x z z3 fv scope cl C s H fp) [] (bst3 fv σ none none none) H s4:=by
 subst hC
 refine⟨blk_ok3 B I hf (Nat.le_refl _) hfC,os,by rw [gens];exact I.bare,Un.kept keep,⟨m,ns,fun i y v h1 h2 h3=>?_⟩,fun y c e=>?_,I.hok.fresh (Nat.le_refl _),fun y c e=>I.freeC y c (B.sub y c e),fun p hp=>absurd (show p∈([]:List (Addr×Obj)) from hp) (by simp),I.hok.kept keep,by simp [bst3]⟩
 ·cases i with
  | zero=>simp [bst3] at h2
  | succ j=>
   cases j with
   | zero=>simp [bst3] at h2
   | succ j=>
   cases j with
   | zero=>simp [bst3] at h2
   | succ j=>
   obtain⟨p,hp,rfl,hv⟩:=bst_get3 h1 h2
   obtain⟨hN,hk,hk2,c,hc⟩:=B.fvs p hp
   obtain⟨m0,_,hl⟩:=I.loc
   have vis:Vis X.env.scope p.2:=hk.elim (fun z=>.inr (.inl z)) fun z=>.inr (.inr z)
   obtain⟨u,r,l⟩:=hl p.1 p.2 v hN hv vis
   refine⟨u,r,.inr ⟨hk2,c,hc,?_⟩⟩
   rcases l with ⟨z,_⟩ | ⟨_,c',hc',o,ho,hd⟩
   ·have z':X.env.scope.names.lookup p.2=some .local:=z
    rcases hk with k | k <;> (rw [k] at z';cases z')
   ·have:=B.sub p.2 c hc
    rw [hc'] at this;cases this
    exact⟨o,keep _ o ho,hd⟩
 ·obtain⟨v,o,ho,hd⟩:=I.cell y c (B.sub y c e)
  exact⟨v,o,keep c o ho,hd⟩
theorem blk_store3 {s:Shared} {H0:Hp} {fp:List Addr} {C:Addr} (hc:X.calm=true) (B:BlkOk3 X x z z3 fv scope cl):
  PG (blk3 X x z z3 fv scope cl C s H0 fp) (.Tuple [.Name x px,.Name z pz,.Name z3 p3] tk tpos) (gTup X.K 3 (gCons (gName 0) (gCons (gName 1) (gCons (gName 2) gNil)))):=by
 have h1:(relabel scope X.env).names.lookup x=some .local:=lookup_relabel_local B.here
 have h2:(relabel scope X.env).names.lookup z=some .local:=lookup_relabel_local B.here2
 have h3:(relabel scope X.env).names.lookup z3=some .local:=lookup_relabel_local B.here3
 exact pg_tup (X:=blk3 X x z z3 fv scope cl C s H0 fp) hc (pgs_cons (pg_name (i:=0) B.nd rfl (.inl h1) (.inr h1)) (pgs_cons (pg_name (i:=1) B.nd rfl (.inl h2) (.inr h2)) (pgs_cons (pg_name (i:=2) B.nd rfl (.inl h3) (.inr h3)) pgs_nil)))
theorem blk_run3 {pins:List (Addr×Obj)} {σ:St} {H:Hp} {s2:Shared} {it:Addr} {fp:List Addr} {tn:Nat->Heap->Prop} {J:It} {Q:VK} {E:Value->Shared->Prop} {RR:Value->Addr->Result->Shared->Prop}
  (hc:X.calm=true) (B:BlkOk3 X x z z3 fv scope cl) (he:∀C s H fp,PE (blk3 X x z z3 fv scope cl C s H fp) elt te) (I:Inv X pins σ H s2) (T:Turn X.prog X.w X.K (.Tuple [.Name x px,.Name z pz,.Name z3 p3] tk tpos) J fp it tn) (st:tn 0 s2.heap) (hf:∀b∈fp,FpOk X pins H b)
  (rd:∀D,H D=none->∃W:Nat->Nat->Hp->Prop,(∃m,W 0 m (upd H D (.lst [])))∧∀i m H,W i m H->
   (J.stop i H∧Q (.ref D) H)∨(J.go i H∧∃N:Hp->Prop,(∀H',N H'->∃m',m' < m∧W (i+1) m' H')∧∀v H',J.yld i H v H'->∃q x1 x2 x3,v=.ref q∧SqT X.K H' q [x1,x2,x3]∧te (bst3 fv σ (some x1) (some x2) (some x3)) H' fun y H2=>∃ys,H2 D=some (.lst ys)∧ys.length < sizeLine∧N (upd H2 D (.lst (ys++[y])))))
  (hRR:∀D C s' H' m',Inv X pins σ H' s'->FpOk X pins H' C->s'.heap.Ns C m'->Q (.ref D) H'->RR (.ref D) C (.ok .next) s'):
  wpAny (model X.prog X.w) X.A (newList []) (fun acc s₃=>wpAny (model X.prog X.w) X.A (newFunctionEnv scope X.env.globals cl [] X.env.qual none .none (some X.env)) (fun cenv s₄=>
   codeAny (model X.prog X.w) X.A (.compStart (.ListComp elt [⟨(.Tuple [.Name x px,.Name z pz,.Name z3 p3] tk tpos),iter,[],0⟩] scope pos) 0 (.ref it) acc { cenv with scope:=relabel scope X.env }) (RR acc cenv.locals) s₄) E s₃) E s2:=by
 refine wpAny_newObj_type ?_ (by show 0<=sizeLine;exact Nat.zero_le _)
 have hD:H s2.heap.objs.size=none:=I.hok.fresh (Nat.le_refl _)
 have I3:=I.lnew (ys:=[]) (its:=[]) (t':=s2.toks) .nil (Nat.zero_le _)
 generalize hs3:({ s2 with heap:=s2.heap.push { cls:=.type "list",data:=.seq ([]:List Value).toArray },toks:=s2.toks }:Shared)=s3 at I3
 have sz3:s3.heap.objs.size=s2.heap.objs.size+1:=by rw [← hs3];exact Heap.size_push ..
 have up3:∀b o,s2.heap.get? b=some o->s3.heap.get? b=some o:=fun b o e=>by rw [← hs3];exact Heap.get?_push_of_some _ e
 have hf3:∀b∈fp,FpOk X pins (upd H s2.heap.objs.size (.lst [])) b:=fun b hb=>by
  obtain⟨f0,r⟩:=hf b hb
  refine⟨?_,r⟩
  obtain⟨o,e,_⟩:=T.obj 0 _ st b hb
  rw [upd_ne (Nat.ne_of_lt (Heap.lt_size e))];exact f0
 have ltf:∀b∈fp,b < s2.heap.objs.size:=fun b hb=>by
  obtain⟨o,e,_⟩:=T.obj 0 _ st b hb
  exact Heap.lt_size e
 have st3:tn 0 s3.heap:=T.keep 0 _ _ st fun b _ o e=>up3 b o e
 obtain⟨W,⟨m0,w0⟩,turn⟩:=rd _ hD
 refine wpAny_newFunctionEnv B.nocell (by intro y hy;simp at hy) (fun h₁ hns₁ hsb₁=>?_) B.kind
 have hfC:∀b∈fp,b≠s3.heap.objs.size:=fun b hb=>Nat.ne_of_lt (by rw [sz3];exact Nat.lt_succ_of_lt (ltf b hb))
 have up4:∀b o,s3.heap.get? b=some o->h₁.get? b=some o:=fun b o e=>hsb₁.extBut b o (Nat.ne_of_lt (Heap.lt_size e)) (Heap.get?_push_of_some _ e)
 generalize hs4:({ s3 with heap:=h₁,toks:=s3.toks+([]:List (Str×Value)).length }:Shared)=s4
 have h4:s4.heap=h₁:=by rw [← hs4]
 have I4:Inv (blk3 X x z z3 fv scope cl s3.heap.objs.size s3 (upd H s2.heap.objs.size (.lst [])) fp) [] (bst3 fv σ none none none) (upd H s2.heap.objs.size (.lst [])) s4:=
  blk_start3 B I3 hf3 rfl hfC (by rw [← hs4]) (by rw [← hs4]) (fun b o e=>by rw [h4];exact up4 b o e) (by rw [h4];exact hns₁)
 have st4:tn 0 s4.heap:=by rw [h4];exact T.keep 0 _ _ st3 fun b _ o e=>up4 b o e
 have stat:∀{H':Hp},(∀b∈fp,H' b=none)->∀b∈fp,FpOk (blk3 X x z z3 fv scope cl s3.heap.objs.size s3 (upd H s2.heap.objs.size (.lst [])) fp) [] H' b:=fun {H'} hn b hb=>by
  obtain⟨_,f1,f2,f3,f4,f5⟩:=hf b hb
  refine⟨hn b hb,hfC b hb,fun z'=>?_,.inl hb,fun y c e=>f4 y c (B.sub y c e),fun p hp=>absurd (show p∈([]:List (Addr×Obj)) from hp) (by simp)⟩
  rcases List.mem_cons.mp (I.stkSub b z') with q | q
  ·exact f1 q
  ·exact f2 q
 have loop:codeAny (model X.prog X.w) X.A (.compLoop (.ListComp elt [⟨(.Tuple [.Name x px,.Name z pz,.Name z3 p3] tk tpos),iter,[],0⟩] scope pos) 0 (.ref it) (.ref s2.heap.objs.size) (compEnvC scope cl s3.heap.objs.size X.env)) (RR (.ref s2.heap.objs.size) s3.heap.objs.size) s4:=by
  refine compLoop_one (fun n s'=>∃i H' o o2 o3,Inv (blk3 X x z z3 fv scope cl s3.heap.objs.size s3 (upd H s2.heap.objs.size (.lst [])) fp) [] (bst3 fv σ o o2 o3) H' s'∧tn i s'.heap∧(∀b∈fp,H' b=none)∧W i n H') ?_ m0
   ⟨0,_,none,none,none,I4,st4,fun b hb=>(hf3 b hb).1,w0⟩
  rintro n s5 E' ⟨i,H5,o5,o6,o7,I5,st5,fr5,w5⟩
  rcases turn i n H5 w5 with ⟨stop,q⟩ | ⟨go,N,hN,step⟩
  ·refine thn (T.done (blk3 X x z z3 fv scope cl s3.heap.objs.size s3 (upd H s2.heap.objs.size (.lst [])) fp) rfl rfl rfl hc i [] s5 _ H5 _ I5 (stat fr5) st5 stop) fun r s6 ⟨hr,I6⟩=>?_
   subst hr
   obtain⟨m6,hn6,_⟩:=I6.loc
   have un:Un (frs X.stack) fp H H5 s2.heap s6.heap:=by
    have u1:Un (frs X.stack) fp H (upd H s2.heap.objs.size (.lst [])) s2.heap s3.heap:=Un.laid up3 (Nat.le_refl _) hD
    exact u1.trans I6.base
   have J6:Inv X pins σ H5 s6:=by
    refine I.call' ?_ un I6.hok I6.bare fun b hb=>?_
    ·have:=I6.os
     rw [show (blk3 X x z z3 fv scope cl s3.heap.objs.size s3 (upd H s2.heap.objs.size (.lst [])) fp).s₀.os=s2.os by rw [← hs3]] at this
     exact this
    ·obtain⟨_,f1,f2,f3,f4,f5⟩:=hf b hb
     exact⟨f3,f1,f4,f5⟩
   refine hRR _ _ s6 H5 m6 J6 ?_ hn6 q
   exact I3.fpOk (Nat.le_refl _) I6.free
  ·refine thn (T.item (blk3 X x z z3 fv scope cl s3.heap.objs.size s3 (upd H s2.heap.objs.size (.lst [])) fp) rfl rfl rfl hc i [] s5 _ H5 _ I5 (stat fr5) st5 go) fun r s6 ⟨u,hr,h6⟩=>?_
   subst hr
   refine thn h6 fun _ s7 ⟨v,H7,I7,r7,y7,st7,fr7⟩=>?_
   have I7':=I7.pinned (stat fr7) (T.obj _ _ st7)
   obtain⟨q7,x1,x2,x3,ev,sq7,rd7⟩:=step v H7 y7
   refine wpAny_mono (blk_store3 (px:=px) (pz:=pz) (p3:=p3) (tk:=tk) (tpos:=tpos) hc B _ s7 _ H7 v u (fun σ' H'=>σ'=bst3 fv σ (some x1) (some x2) (some x3)∧H'=H7) I7' r7 ⟨q7,[x1,x2,x3],ev,sq7,rfl,x1,[x2,x3],rfl,x2,[x3],rfl,x3,[],rfl,rfl,rfl,rfl⟩) (fun _ s8 ⟨σ8,H8,I8,e8a,e8b⟩=>?_) fun _ _ z=>False.elim z
   subst e8a e8b
   have e8:=he _ _ _ _ _ s8 _ _ _ I8 rd7
   refine wpAny_mono e8 (fun y s9 ⟨yv,H9,I9,r9,ys,hD9,hz,n9⟩=>?_) fun _ _ z=>False.elim z
   have a9:=mt_append (X:=blk3 X x z z3 fv scope cl s3.heap.objs.size s3 (upd H s2.heap.objs.size (.lst [])) fp) _ s9 _ H9 (.ref s2.heap.objs.size) [yv] (.ref s2.heap.objs.size) [y] (fun _ H10=>H10=upd H9 s2.heap.objs.size (.lst (ys++[yv]))) I9 rfl (.cons r9 .nil)
    ⟨_,ys,yv,rfl,rfl,hD9,hz,rfl⟩
   refine wpAny_mono a9 (fun _ s10 ⟨_,H10,I10,_,e10⟩=>?_) fun _ _ z=>False.elim z
   subst e10
   obtain⟨m',hm,w9⟩:=hN _ n9
   refine⟨m',hm,i+1,_,some x1,some x2,some x3,I10.unpinned,T.keep _ _ _ st7 fun b hb o e=>(I10.pin (b,o) (List.mem_append_right _ (List.mem_append_right _ (mem_pinsAt hb e)))).1,fun b hb=>?_,w9⟩
   obtain⟨o,e,_⟩:=T.obj _ _ st7 b hb
   exact (I10.pin (b,o) (List.mem_append_right _ (List.mem_append_right _ (mem_pinsAt hb e)))).2.1
 exact codeAny_compStart_list loop (T.self _ 0 _ _ _ st4 loop)
def CLoop3 (K:W.Frag) (J:It) (fv:List (Nat×Str)) (te:TE) (Q:VK) (σ:St) (H1:Hp) (D:Addr):Prop:=∃W:Nat->Nat->Hp->Prop,(∃m,W 0 m (upd H1 D (.lst [])))∧∀i m H,W i m H->
 (J.stop i H∧Q (.ref D) H)∨(J.go i H∧∃N:Hp->Prop,(∀H',N H'->∃m',m' < m∧W (i+1) m' H')∧∀v H',J.yld i H v H'->∃q x1 x2 x3,v=.ref q∧SqT K H' q [x1,x2,x3]∧te (bst3 fv σ (some x1) (some x2) (some x3)) H' fun y H2=>∃ys,H2 D=some (.lst ys)∧ys.length < sizeLine∧N (upd H2 D (.lst (ys++[y]))))
def tComp3 (K:W.Frag) (fv:List (Nat×Str)) (wi:TI) (te:TE):TE:=fun σ H Q=>wi σ H fun J H1=>∀D,H1 D=none->CLoop3 K J fv te Q σ H1 D
theorem a_tComp3 {K:W.Frag} {σ:St} {H:Hp} {Q:VK}:tComp3 K fv wi te σ H Q=wi σ H fun J H1=>∀D,H1 D=none->CLoop3 K J fv te Q σ H1 D:=rfl
theorem pe_lcomp3 (hc:X.calm=true) (B:BlkOk3 X x z z3 fv scope cl) (hi:PI X (.Tuple [.Name x px,.Name z pz,.Name z3 p3] tk tpos) iter wi) (he:∀C s H fp,PE (blk3 X x z z3 fv scope cl C s H fp) elt te)
  (hs:∀v,foldedSetIterable iter X.env v=pure v:=by intro _;rfl):PE X (.ListComp elt [⟨.Tuple [.Name x px,.Name z pz,.Name z3 p3] tk tpos,iter,[],0⟩] scope pos) (tComp3 X.K fv wi te):=by
 intro pins s σ H Q I h
 rw [eval_ListComp]
 refine wpAny_comprehension_free (use:=none) rfl hs B.clos B.kind B.names (thn (hi pins s σ H _ I h) fun v s1 h1=>thn h1 fun itv s2 h2=>?_)
 obtain⟨it,fp,tn,J,H2,e,I2,T,st2,f2,rd⟩:=h2
 subst e
 refine blk_run3 (RR:=fun acc C=>compPost (model X.prog X.w) X.A X.xe none (EP X pins σ Q) acc C) hc B he I2 T st2 f2 rd ?_
 intro D C s' H' m' I' fC hn q
 exact⟨m',hn,fun h' sb=>⟨.ref D,H',I'.turned (t':=s'.toks) (fun b o hb e=>(sb.2 b hb).trans e) fC.1 fC.2.1 fC.2.2.2.1 fC.2.2.2.2.1 fC.2.2.2.2.2,rfl,q⟩⟩
theorem blkok3 {X:Cx} {x z z3:Str} {fv:List (Nat×Str)} {scope:Scope} {cl:List (Str×Addr)} (clos:closureFor scope X.env=pure cl) (sub:∀y c,cl.lookup y=some c->X.env.cells.lookup y=some c) (fvs:FvOk2 X scope cl fv)
  (nd:(x :: z :: z3 :: fv.map (·.2)).Nodup:=by decide) (kind:scope.kind=.function:=by rfl) (here:scope.names.lookup x=some .local:=by rfl) (here2:scope.names.lookup z=some .local:=by rfl) (here3:scope.names.lookup z3=some .local:=by rfl) (nocell:∀y∈scope.names,y.2≠.cell:=by decide +kernel)
  (names:∀y∈scope.names,y.2=.local->scope.names.lookup y.1=some .local:=by decide +kernel)
  (has:((relabel scope X.env).names.all fun p=>(p.2 != .cell && p.2 != .free) || (cl.lookup p.1).isSome)=true:=by rfl):BlkOk3 X x z z3 fv scope cl:=
 ⟨clos,nocell,kind,names,here,here2,here3,nd,sub,has_of has,fvs⟩
end
def Itz3 (K:W.Frag) (a b c:Addr):It:=
 ⟨fun i H=>∃xs ys zs x y v,SqT K H a xs∧SqT K H b ys∧SqT K H c zs∧xs[i]?=some x∧ys[i]?=some y∧zs[i]?=some v,
  fun i H v H'=>∃p x y u,H p=none∧v=.ref p∧H'=upd H p (.tup [x,y,u])∧(∀xs,SqT K H a xs->xs[i]?=some x)∧(∀ys,SqT K H b ys->ys[i]?=some y)∧∀zs,SqT K H c zs->zs[i]?=some u,
  fun i H=>∃xs,SqT K H a xs∧xs.length<=i⟩
theorem turn_zip3 {P:Program} {w:World} {K:W.Frag} {elts:List Expr} {tk:Nat} {tpos:Pos} (a b c z TI TO i1 i2 i3:Addr) (D:Zip3 z TI TO i1 i2 i3 a b c):
  Turn P w K (.Tuple elts tk tpos) (Itz3 K a b c) [z,TI,TO,i1,i2,i3] z (fun i h=>IsZip h z TI TO .none∧IsTrip h TI (.ref i1) (.ref i2) (.ref i3)∧(∃u v q,IsTrip h TO u v q)∧h.IsTupleIter i1 a i∧h.IsTupleIter i2 b i∧h.IsTupleIter i3 c i) where
 mem:=by simp
 obj:=fun i h st c hb=>by
  obtain⟨hz,hTI,⟨u,v,q,hTO⟩,⟨o1,e1,c1,d1⟩,⟨o2,e2,c2,d2⟩,⟨o3,e3,c3,d3⟩⟩:=st
  simp only [List.mem_cons,List.not_mem_nil,or_false] at hb
  rcases hb with rfl | rfl | rfl | rfl | rfl | rfl
  ·exact⟨_,hz,fun v z=>by
    have z':Data.fields _=Data.cell v:=z
    cases z'⟩
  ·exact⟨_,hTI,fun v z=>by
    have z':Data.seq _=Data.cell v:=z
    cases z'⟩
  ·exact⟨_,hTO,fun v z=>by
    have z':Data.seq _=Data.cell v:=z
    cases z'⟩
  ·exact⟨o1,e1,fun v z=>by rw [d1] at z;cases z⟩
  ·exact⟨o2,e2,fun v z=>by rw [d2] at z;cases z⟩
  ·exact⟨o3,e3,fun v z=>by rw [d3] at z;cases z⟩
 keep:=fun i h h' st k=>by
  obtain⟨hz,hTI,⟨u,v,q,hTO⟩,h1,h2,h3⟩:=st
  exact⟨k z (by simp) _ hz,k TI (by simp) _ hTI,⟨u,v,q,k TO (by simp) _ hTO⟩,h1.at fun o q=>k i1 (by simp) o q,h2.at fun o q=>k i2 (by simp) o q,h3.at fun o q=>k i3 (by simp) o q⟩
 item:=by
  intro X hP hw hK hc i pins s σ H E I hf st hg
  subst hP hw hK
  obtain⟨xs,ys,zs,x,y,v,hq1,hq2,hq3,hx,hy,hv⟩:=hg
  obtain⟨its1,rv1,pl1,hz1⟩:=I.tuple hq1
  obtain⟨its2,rv2,pl2,hz2⟩:=I.tuple hq2
  obtain⟨its3,rv3,pl3,hz3⟩:=I.tuple hq3
  obtain⟨u1,hu1,ru1⟩:=rv1.get hx
  obtain⟨u2,hu2,ru2⟩:=rv2.get hy
  obtain⟨u3,hu3,ru3⟩:=rv3.get hv
  obtain⟨hz,hTI,⟨_,_,_,hTO⟩,hit1,hit2,hit3⟩:=st
  refine pyNext_zip3 D hz hTI hTO hit1 hit2 hit3 pl1 pl2 pl3 (x:=u1) (y:=u2) (v:=u3) (by simpa using hu1) (by simpa using hu2) (by simpa using hu3) fun h1 ho hTO1 hi1 hi2 hi3 hT hk'=>?_
  have hk:∀c o,c≠z->c≠TO->c≠i1->c≠i2->c≠i3->s.heap.get? c=some o->h1.get? c=some o:=fun c o n1 n2 n3 n4 n5 e=>hk' c o (by simp [n1,n2,n3,n4,n5]) e
  refine⟨_,rfl,wpAny_letOwnedTupleGo_zip ho fun h2 he2 hs2=>?_⟩
  have hp:H s.heap.objs.size=none:=I.hok.fresh (Nat.le_refl _)
  have hpz:s.heap.objs.size≠z:=Nat.ne_of_gt (Heap.lt_size hz)
  have k2:∀c o,c∉[z,TI,TO,i1,i2,i3]->s.heap.get? c=some o->h2.get? c=some o:=fun c o hb q=>
   (hs2.2 c fun e=>hb (by simp [e])).trans (hk c o (fun e=>hb (by simp [e])) (fun e=>hb (by simp [e])) (fun e=>hb (by simp [e])) (fun e=>hb (by simp [e])) (fun e=>hb (by simp [e])) q)
  have hT2:h2.get? s.heap.objs.size=some { cls:=.type "tuple",data:=.seq #[u1,u2,u3] }:=(hs2.2 _ hpz).trans hT
  have nch:∀c u,H c=some u->c∉[z,TI,TO,i1,i2,i3]:=fun c u q hb=>by
   rw [(hf c hb).1] at q;cases q
  have up:∀c,c < s.heap.objs.size->c≠s.heap.objs.size:=fun c hb=>Nat.ne_of_lt hb
  have I2:Inv X pins σ (upd H s.heap.objs.size (.tup [x,y,v])) { s with heap:=h2 }:=by
   refine I.step (g':=s.gens) (d':=s.drawn) (t':=s.toks) (ch:=[z,TI,TO,i1,i2,i3]) (fun c hb=>?_) (fun c o _ _ hc q _=>k2 c o hc q) (fun c o _ _ hc q _=>⟨o.slots,k2 c o hc q⟩)
    (fun c o _ q n=>by rw [upd_ne (up c (Heap.lt_size q))];exact n) (fun c o hc q=>⟨o,k2 c o hc q⟩) (fun c ys q=>by rw [upd_ne (ne_of_none q hp)];exact q) (fun c o v q=>by rw [upd_ne (ne_of_none q hp)];exact q)
    (fun c ps q=>⟨#[],by rw [upd_ne (ne_of_none q hp),q];simp⟩) (fun m hm=>?_) (fun c v q=>?_) I.bare
   ·obtain⟨f0,f1,f2,f3,f4,f5⟩:=hf c hb
    exact⟨f3,f1,f4,f5⟩
   ·obtain⟨o,es,ep,q,r⟩:=hm
    refine⟨o,es,ep,k2 _ o (fun e=>?_) q,r⟩
    exact (hf _ e).2.1 rfl
   ·by_cases hb:c=s.heap.objs.size
    ·subst hb
     rw [upd_same] at q;cases q
     exact⟨by show 3<=sizeLine;decide,[u1,u2,u3],.cons ru1 (.cons ru2 (.cons ru3 .nil)),⟨_,hT2,rfl,_,rfl⟩⟩
    ·rw [upd_ne hb] at q
     refine (I.hok c v q).stay (fun c' o hc r=>k2 c' o ?_ r) (fun c' r=>by rw [upd_ne (ne_of_none r hp)];exact r) fun c' ys r=>by rw [upd_ne (ne_of_none r hp)];exact r
     rcases hc with e | e
     ·rw [e];exact nch c v q
     ·exact nch c' _ e
  refine⟨.ref s.heap.objs.size,_,I2,rfl,⟨_,x,y,v,hp,rfl,rfl,fun zs hz'=>by rw [I.tuple_inj hz' hq1];exact hx,fun zs hz'=>by rw [I.tuple_inj hz' hq2];exact hy,fun zs hz'=>by rw [I.tuple_inj hz' hq3];exact hv⟩,
   ⟨he2,(hs2.2 TI D.TIz).trans (hk TI _ D.TIz D.TITO D.TIi1 D.TIi2 D.TIi3 hTI),⟨_,_,_,(hs2.2 TO D.TOz).trans hTO1⟩,hi1.at fun o q=>(hs2.2 i1 D.i1z).trans q,hi2.at fun o q=>(hs2.2 i2 D.i2z).trans q,hi3.at fun o q=>(hs2.2 i3 D.i3z).trans q⟩,fun c hb=>?_⟩
  have lb:c < s.heap.objs.size:=by
   simp only [List.mem_cons,List.not_mem_nil,or_false] at hb
   rcases hb with rfl | rfl | rfl | rfl | rfl | rfl
   ·exact Heap.lt_size hz
   ·exact Heap.lt_size hTI
   ·exact Heap.lt_size hTO
   ·obtain⟨_,q,_⟩:=hit1;exact Heap.lt_size q
   ·obtain⟨_,q,_⟩:=hit2;exact Heap.lt_size q
   ·obtain⟨_,q,_⟩:=hit3;exact Heap.lt_size q
  rw [upd_ne (up c lb)]
  exact (hf c hb).1
 done:=by
  intro X hP hw hK hc i pins s σ H E I hf st hg
  subst hP hw hK
  obtain⟨xs,hq1,hx⟩:=hg
  obtain⟨its1,rv1,pl1,hz1⟩:=I.tuple hq1
  obtain⟨hz,hTI,⟨_,_,_,hTO⟩,hit1,hit2,hit3⟩:=st
  have hl1:=rv1.length
  refine pyNext_zip3End (I.ok.hd hc) D hz hTI hit1 pl1 (by simp;omega) fun h' eb'=>⟨rfl,?_⟩
  have k2:∀c o,c∉[z,TI,TO,i1,i2,i3]->s.heap.get? c=some o->h'.get? c=some o:=fun c o hb q=>eb' c o (fun e=>hb (by
   simp only [List.mem_cons,List.not_mem_nil,or_false] at e ⊢
   rcases e with e | e | e | e | e <;> simp [e])) q
  refine I.step (g':=s.gens) (d':=s.drawn) (t':=s.toks) (ch:=[z,TI,TO,i1,i2,i3]) (fun c hb=>?_) (fun c o _ _ hc q _=>k2 c o hc q) (fun c o _ _ hc q _=>⟨o.slots,k2 c o hc q⟩)
   (fun c o _ q n=>n) (fun c o hc q=>⟨o,k2 c o hc q⟩) (fun c ys q=>q) (fun c o v q=>q) (fun c ps q=>⟨#[],by rw [q];simp⟩) (fun m hm=>?_) (fun c v q=>?_) I.bare
  ·obtain⟨f0,f1,f2,f3,f4,f5⟩:=hf c hb
   exact⟨f3,f1,f4,f5⟩
  ·obtain⟨o,es,ep,q,r⟩:=hm
   exact⟨o,es,ep,k2 _ o (fun e=>(hf _ e).2.1 rfl) q,r⟩
  ·refine (I.hok c v q).stay (fun c' o hc r=>k2 c' o ?_ r) (fun c' r=>r) fun c' ys r=>r
   have nch:∀c u,H c=some u->c∉[z,TI,TO,i1,i2,i3]:=fun c u q hb=>by
    rw [(hf c hb).1] at q;cases q
   rcases hc with e | e
   ·rw [e];exact nch c v q
   ·exact nch c' _ e
 self:=fun _ _ _ _ _ st h=>wpAny_pyIter_zip st.1 h
section
variable {X:Cx}
def iZip3 (K:W.Frag) (ta:TA):TI:=fun σ H R=>ta σ H fun vs H1=>∃a b c xs ys zs,vs=[.ref a,.ref b,.ref c]∧SqT K H1 a xs∧SqT K H1 b ys∧SqT K H1 c zs∧R (Itz3 K a b c) H1
theorem a_izip3 {K:W.Frag} {ta:TA} {σ:St} {H:Hp} {R:It->Hp->Prop}:iZip3 K ta σ H R=ta σ H fun vs H1=>∃a b c xs ys zs,vs=[.ref a,.ref b,.ref c]∧SqT K H1 a xs∧SqT K H1 b ys∧SqT K H1 c zs∧R (Itz3 K a b c) H1:=rfl
theorem pi_zip3 {elts:List Expr} {tk:Nat} {tpos:Pos} {a b c:Expr} {ta:TA} {p pos:Pos} (hg:Gl X "zip") (hm:X.mg "zip" = none) (ha:PA X [a,b,c] ta) (hs:starEach [a,b,c] X.env=(false,eval a X.env) :: starEach [b,c] X.env:=by rfl)
  (hs2:(backTo pos (starEach [b,c] X.env)).any (·.1)=false:=by rfl):
  PI X (.Tuple elts tk tpos) (.Call (.Name "zip" p) [a,b,c] [] pos) (iZip3 X.K ta):=by
 intro pins s σ H R I h
 refine Call_ (ld_blt I hg hm boot_zip (PyProof.Rows.callWith_type1 (thn (ha pos pins s σ H _ I h) fun us s1 ⟨vs,H1,I1,r1,q1⟩=>?_) hs hs2))
 obtain⟨a,b,c,xs,ys,zs,e,hq1,hq2,hq3,q⟩:=q1
 subst e
 cases r1 with
 | cons r rr=>
  cases rr with
  | cons r' rr=>
  cases rr with
  | cons r'' rr=>
  cases rr
  cases r
  cases r'
  cases r''
  have fr:∀c,c∈[s1.heap.objs.size+5,s1.heap.objs.size+3,s1.heap.objs.size+4,s1.heap.objs.size,s1.heap.objs.size+1,s1.heap.objs.size+2]->s1.heap.objs.size<=c:=fun c hb=>by
   simp only [List.mem_cons,List.not_mem_nil,or_false] at hb
   rcases hb with rfl | rfl | rfl | rfl | rfl | rfl <;> omega
  obtain⟨its1,rv1,pl1,hz1⟩:=I1.tuple hq1
  obtain⟨its2,rv2,pl2,hz2⟩:=I1.tuple hq2
  obtain⟨its3,rv3,pl3,hz3⟩:=I1.tuple hq3
  have a1:a < s1.heap.objs.size:=by obtain⟨_,e,_⟩:=pl1;exact Heap.lt_size e
  have a2:b < s1.heap.objs.size:=by obtain⟨_,e,_⟩:=pl2;exact Heap.lt_size e
  have a3:c < s1.heap.objs.size:=by obtain⟨_,e,_⟩:=pl3;exact Heap.lt_size e
  refine call_zip3 pl1 pl2 pl3 fun h1 hz hTI hTO hi1 hi2 hi3 hk=>wpAny_pyIter_zip hz ?_
  exact⟨_,_,_,_,H1,rfl,I1.kept (t':=s1.toks) hk,turn_zip3 a b c _ _ _ _ _ _ (zip3_new a1 a2 a3),⟨hz,hTI,⟨_,_,_,hTO⟩,hi1,hi2,hi3⟩,fun c hb=>I1.fpOk (fr c hb) (I1.hok.fresh (fr c hb)),q⟩
end
theorem bools_are {bs:List Bool} {us:List Value}:Vals (bs.map V.bl) us->PyProof.Rows.LSm.BoolsAre us bs:=by
 induction bs generalizing us with
 | nil=>intro h;cases h;exact .nil
 | cons b bs ih=>intro h;cases h with | cons r rr=>cases r;exact .cons b (ih rr)
section
variable {X:Cx}
theorem call_allL (hc:X.calm=true):CallR X (.builtin "all") (fun xs H Q=>∃(p:Addr) (bs:List Bool),xs=[.ref p]∧SqL X.K H p (bs.map V.bl)∧Q (.bl (bs.all id)) H):=by
 intro pins s σ H xs us Q I r h
 obtain⟨p,bs,rfl,hq,q⟩:=h
 obtain⟨u,rfl,rx⟩:=vals1 r
 cases rx
 obtain⟨its,r',pl,hz⟩:=I.list hq
 have hb:=bools_are r'
 have hl:=pl.isList
 have hlt:p < s.heap.objs.size:=by obtain⟨_,e,_⟩:=hl;exact Heap.lt_size e
 refine call_all_walk (wpAny_pyIter_list hl ?_)
 refine⟨s.heap.objs.size,[s.heap.objs.size,p],[s.heap.objs.size],its.toArray.size,_,_,fun i=>(bs[i]?).getD true,rfl,Walks.list (A:=X.A.in1) (I.ok.hd hc) _ p (Nat.ne_of_lt hlt) its.toArray,
  ⟨⟨_,Heap.get?_push_size _ rfl,rfl,rfl⟩,hl.push _⟩,fun i v s' Q' E' hP hQ=>?_,fun h' tk hk=>?_⟩
 ·obtain⟨b,e,rfl⟩:=hb.get i v (by simpa using hP)
  simp only [e,Option.getD_some] at hQ
  exact wpAny_truthy_bool hQ
 ·have e:((List.range its.toArray.size).all fun i=>(bs[i]?).getD true)=bs.all id:=by
   rw [List.size_toArray,hb.length];exact PyProof.Rows.LSm.range_all bs
  rw [e]
  exact⟨.bl _,H,I.kept (PyProof.Rows.LSm.kept_iter hk),rfl,q⟩
theorem call_isinstC:CallR X (.builtin "isinstance") (fun xs H Q=>∃x C t b,xs=[x,.ref C]∧TyOf X.K H x t∧PySem.W.kitOne X.K t (.ref C)=some b∧Q (.bl b) H):=by
 intro pins s σ H xs us Q I r h
 obtain⟨x,C,t,b,rfl,ty,e,q⟩:=h
 cases r with
 | cons r1 rr=>
  cases rr with
  | cons r2 rr=>
   cases rr
   cases r2
   exact isinst_ok I r1 ty e fun tk=>⟨.bl b,H,I.tok _,rfl,q⟩
def tMake0 (C:Addr):TE:=fun _ H Q=>∀x dx,H x=none->H dx=none->dx≠x->Q (.ref x) (upd (upd H dx (.own x)) x (.ins C dx []))
theorem a_make0 {C:Addr} {σ:St} {H:Hp} {Q:VK}:tMake0 C σ H Q=∀x dx,H x=none->H dx=none->dx≠x->Q (.ref x) (upd (upd H dx (.own x)) x (.ins C dx [])):=rfl
end
structure OCl (K:W.Frag) (C:Addr):Prop where
 cl:PySem.W.findIn K (.ref C) "__class__" = some (some (.builtin "object.__class__"))
 dg:PySem.W.specialIn K (.builtin "object.__class__") "__get__" = some (some (.builtin "getset_descriptor.__get__"))
 dt:PySem.W.takesIn K (.builtin "object.__class__")=some true
 ob:PySem.W.mroIn K C (.type "object")=some true
theorem OCl.ty {K:W.Frag} {H:Hp} {a C dx:Addr} {fs:List (Str×V)} (o:OCl K C) (c:Cls K C) (e:H a=some (.ins C dx fs)):TyOf K H (.ref a) (.ref C):=.ins e c o.cl o.dg o.dt o.ob
theorem a_eqS {x y:Str} {H:Hp} {Q:VK}:rEq (.str x) (.str y) H Q=Q (.bl (decide (x=y))) H:=by
 show (true=true∧Q (.bl (decide (V.str x=V.str y))) H)=_
 simp
section
variable {X:Cx} {elt iter:Expr} {x:Str} {px:Pos} {fv:List (Nat×Str)} {scope:Scope} {cl:List (Str×Addr)} {pos:Pos} {te:TE} {wi:TI}
end
section
variable {X:Cx} {elt iter:Expr} {x:Str} {px:Pos} {fv:List (Nat×Str)} {scope:Scope} {cl:List (Str×Addr)} {pos:Pos} {te:TE} {wi:TI}
end
section
variable {X:Cx} {k:Nat} {f:Addr} {fd:FuncData} {ps:List Str} {sp:Sp} {x:Str} {p pos:Pos} {e:Expr} {es:List Expr} {t:TA} {CX:CXT} {ds:List Value} {dvs:List V} {E:XK} {i:Nat}
end
open PySem
section
variable {K:Type} [DecidableEq K] {prog:Program} {w:World} {A:Around} {E:Value->Shared->Prop} {s:Shared} {knd:HeapKind prog w K}
end
section
variable {K:Type} [DecidableEq K]
end
section
variable {X:Cx}
end
theorem compLoop_err {prog:Program} {w:World} {A:Around} {R:Result->Shared->Prop} {s:Shared} {elt target iter:Expr} {scope:Scope} {pos:Pos} {it acc:Value} {env:Env} (I:Nat->Shared->Prop)
  (turn:∀n s,I n s->wpAny (model prog w) A (pyNext it) (fun r s₁=>match r with
   | none=>R (.ok .next) s₁
   | some v=>wpAny (model prog w) A (letOwnedTupleGo target it v) (fun _ s₂=>wpAny (model prog w) A (assign target env v) (fun _ s₃=>wpAny (model prog w) A (eval elt env) (fun x s₄=>
     wpAny (model prog w) A (call (.builtin "list.append") [acc,x]) (fun _ s₅=>∃m,m < n∧I m s₅) (notedBy (model prog w) A env fun x s'=>R (.error x) s') s₄) (notedBy (model prog w) A env fun x s'=>R (.error x) s') s₃) (notedBy (model prog w) A env fun x s'=>R (.error x) s') s₂) (notedBy (model prog w) A env fun x s'=>R (.error x) s') s₁) (notedBy (model prog w) A env fun x s'=>R (.error x) s') s)
  (n:Nat) (h:I n s):codeAny (model prog w) A (.compLoop (.ListComp elt [⟨target,iter,[],0⟩] scope pos) 0 it acc env) R s:=by
 refine codeAny_loop rfl I (fun n s hI=>?_) n h
 show wpAny _ _ ((compTurn (.ListComp elt [⟨target,iter,[],0⟩] scope pos) 0 it acc env).onRaise (fun x=>do noteFrame x env;theTreesLotGoes x)) _ _ s
 refine wpAny_noted ?_
 rw [PySem.compTurn_list1]
 refine wpAny_bind (wpAny_standAt (wpAny_bind (wpAny_mono (turn n s hI) (fun r s₁ h₁=>?_) fun _ _ h'=>h')))
 cases r with
 | none=>exact wpAny_pure h₁
 | some v=>exact wpAny_bind (thn h₁ fun _ s₂ h₂=>wpAny_bind (thn h₂ fun _ s₃ h₃=>wpAny_bind (wpAny_bind (thn h₃ fun x s₄ h₄=>wpAny_bind (thn h₄ fun _ s₅ h₅=>wpAny_pure (wpAny_pure ⟨rfl,h₅⟩))))))
theorem held_but {B h h':Heap} {l:List Env} {e L C:Addr} {cls a0:Value} {oC:Obj} (x:Heap.HeldW B l e cls a0 L h) (sb:Heap.SameBut C h h') (hB:B.get? C=none) (hC:h.get? C=some oC) (nf:∀vs,oC.data≠.fields vs) (nl:C∉frs l):Heap.HeldW B l e cls a0 L h':=by
 obtain⟨k1,k2,k3,oe,vs,T,oT,ts,he,hc,hd,h1,hnT,hTe,hT,hdT,h3⟩:=x
 have ne:∀{b:Addr} {o:Obj} {vs:Array Value},h.get? b=some o->o.data=.fields vs->b≠C:=fun {b o vs} hb hd z=>by
  rw [z,hC] at hb;cases hb;exact nf _ hd
 refine⟨fun b o q=>(sb.2 b fun z=>by rw [z,hB] at q;cases q).trans (k1 b o q),k2,?_,oe,vs,T,oT,ts,(sb.2 e (ne he hd)).trans he,hc,hd,h1,hnT,hTe,(sb.2 T (ne hT hdT)).trans hT,hdT,h3⟩
 have go:∀m:List Env,(∀b∈frs m,b∈frs l)->h.FunFrames B m->h'.FunFrames B m:=fun m=>by
  induction m with
  | nil=>intro _ _;trivial
  | cons env r ih=>
   intro hs hl
   obtain⟨hk,⟨L',o,hf,hn,ho,hd⟩,hr⟩:=hl
   have hm:L'∈frs (env :: r):=by unfold frs;rw [List.filterMap_cons,hf];exact List.mem_cons_self
   refine⟨hk,⟨L',o,hf,hn,(sb.2 L' fun z=>nl (z ▸ hs L' hm)).trans ho,hd⟩,ih (fun b hb=>hs b ?_) hr⟩
   unfold frs;rw [List.filterMap_cons,hf];exact List.mem_cons_of_mem _ hb
 exact go l (fun _ hb=>hb) k3
theorem setFlight_held {M:Model} {A:Around} {E:Value->Shared->Prop} {s:Shared} {B:Heap} {l:List Env} {e L:Addr} {cls a0:Value} {Q:Unit->Shared->Prop} (x:Heap.HeldW B l e cls a0 L s.heap) (h:Q () s):wpAny M A (setFlight (.ref e) (some L)) Q E s:=by
 obtain⟨k1,k2,k3,oe,vs,T,oT,ts,he,hc,hd,h1,hnT,hTe,hT,hdT,h3⟩:=x
 unfold setFlight
 refine wpAny_bind (wpAny_field he hd h1 ?_)
 rw [if_pos (show (Value.ref T != Value.none)=true from by simp)]
 refine wpAny_setField hT hdT (Array.getElem?_eq_some_iff.mp h3).1 ?_
 rw [show ((some L).elim Value.none fun f=>rawInt f)=rawInt L from rfl,Heap.update_setField_same s.heap T oT ts 3 (rawInt L) hT hdT h3]
 exact h
section
variable {P:Program} {w:World} {K:W.Frag} {mg:Str->Option Value} {base:Heap} {N:List Str} {qual:Str} {sc0:Scope} {f:Addr} {cd:Value} {A:Around} {outer:List Env} {s0:Shared} {H0:Hp} {E:XK}
theorem comp_err {pins:List (Addr×Obj)} {σ:St} {H2 H1:Hp} {s2 s1 s':Shared} {C:Addr} {m:Str->Option Value} {fp:List Addr} {e:Value} {cenv:Env} {E3:Value->Shared->Prop} {RE:Value->Shared->Prop}
  (I2:Inv (cxOf (CXE P w) P w K mg base N qual sc0 f cd A outer s0 H0 E) pins σ H2 s2) (hC:s2.heap.objs.size<=C) (un:Un (frs (envOfC qual sc0 s0.heap.objs.size f cd :: outer)) fp H2 H1 s2.heap s1.heap) (hfp:∀b∈fp,s0.heap.objs.size<=b)
  (ns:s1.heap.Ns C m) (hC1:H1 C=none) (os:s1.os=s2.os) (c:CXE P w (envOfC qual sc0 s0.heap.objs.size f cd :: outer) H1 s1 E e s') (hfr:cenv.frame=some s0.heap.objs.size)
  (hR:∀e h3,(∃m,h3.Ns C m∧∀h4,Heap.SameBut C h3 h4->wpAny (model P w) (A.deeper (envOfC qual sc0 s0.heap.objs.size f cd)) (PySem.passOn "comprehension.variables-let-go" e cenv:Sem Value) (fun _ _=>False) (cxOf (CXE P w) P w K mg base N qual sc0 f cd A outer s0 H0 E).xe { s' with heap:=h4 })->RE e { s' with heap:=h3 }):
  wpAny (model P w) (A.deeper (envOfC qual sc0 s0.heap.objs.size f cd)) (noteFrame e cenv) (fun _ s''=>RE e s'') E3 s':=by
 obtain⟨a,t,Ce,H',B,rfl,os1,bare,fl,G,sl,q⟩:=c
 have hf0:(envOfC qual sc0 s0.heap.objs.size f cd).frame=some s0.heap.objs.size:=rfl
 have e1:noteFrame (.ref a) cenv=noteFrame (.ref a) (envOfC qual sc0 s0.heap.objs.size f cd):=by
  unfold noteFrame PySem.frameOf
  rw [hfr,hf0]
 rw [e1]
 have hfs:(A.deeper (envOfC qual sc0 s0.heap.objs.size f cd)).frames=some (envOfC qual sc0 s0.heap.objs.size f cd :: outer):=I2.ok.frames
 obtain⟨oC,esC,epC,hoC,hdC,rC⟩:=id ns
 have sz2:s0.heap.objs.size<=s2.heap.objs.size:=I2.sz
 have nC:C∉frs (envOfC qual sc0 s0.heap.objs.size f cd :: outer):=fun z=>by
  obtain⟨_,o,ho,_⟩:=I2.stack.mem z
  exact absurd (Heap.lt_size ho) (Nat.not_lt.mpr hC)
 have BC:=G.keep C oC hoC hC1 nC
 refine wpAny_looks_onW hfs hf0 fl fun h3 held up=>?_
 refine hR _ h3 ⟨m,⟨oC,esC,epC,held.1 _ _ BC,hdC,rC⟩,fun h4 sb=>?_⟩
 have held2:Heap.HeldW (PySem.W.hideAll B [C]) (envOfC qual sc0 s0.heap.objs.size f cd :: outer) a (.ref Ce) (.ref t) s0.heap.objs.size h4:=
  held_but (PySem.W.heldW_base (fun b o z=>PySem.W.of_hideAll _ z) held) sb (PySem.W.hideAll_none _ (List.mem_singleton_self C)) (held.1 _ _ BC) (fun vs z=>by rw [hdC] at z;cases z) nC
 obtain⟨oe,vs,he,hc',T,h1T,_⟩:∃oe vs,h4.get? a=some oe∧oe.data=.fields vs∧∃T,vs[1]?=some (.ref T)∧oe.cls=.ref Ce:=by
  obtain⟨_,_,_,oe,vs,T,_,_,he,hc,hd,h1,_⟩:=id held2
  exact⟨oe,vs,he,hd,T,h1,hc.1⟩
 unfold PySem.passOn
 refine wpAny_bind (wpAny_field he hc' h1T ?_)
 rw [if_neg (show ¬((Value.ref T == Value.none)=true) from by simp)]
 rw [hfr]
 refine wpAny_bind (setFlight_held held2 ?_)
 refine wpAny_throw ?_
 show wpAny (model P w) (A.deeper (envOfC qual sc0 s0.heap.objs.size f cd)) (leaving (envOfC qual sc0 s0.heap.objs.size f cd) (.ref a)) _ _ _
 unfold leaving
 refine wpAny_bind (wpAny_noteFrame_againW hf0 held2.2.2.2 ?_)
 refine wpAny_landsW held2 fun h5 fl5 up5=>?_
 obtain⟨k1,k2,⟨_,_,k3⟩,k4⟩:=fl5
 have noE:∀b:Addr,b∉(cxOf (CXE P w) P w K mg base N qual sc0 f cd A outer s0 H0 E).ex:=fun b z=>absurd (show b∈([]:List Addr) from z) (by simp)
 have nfp:∀{b:Addr} {o:Obj},s0.heap.get? b=some o->b∉fp:=fun {b o} z hb=>absurd (Heap.lt_size z) (Nat.not_lt.mpr (hfp b hb))
 have nbC:∀{b:Addr} {o:Obj},s0.heap.get? b=some o->b≠C:=fun {b o} z hb=>absurd (Heap.lt_size z) (Nat.not_lt.mpr (hb ▸ Nat.le_trans sz2 hC))
 have hB:∀{b:Addr} {o:Obj},b≠C->B.get? b=some o->(PySem.W.hideAll B [C]).get? b=some o:=fun {b o} n z=>PySem.W.hideAll_get _ z (by simpa using n)
 refine⟨a,t,Ce,H',PySem.W.hideAll B [C],rfl,(os1.trans os).trans I2.os,bare,⟨k1,k2,k3,k4⟩,⟨fun b o z n hb=>?_,fun b o z hb=>?_,fun b o z n=>?_,fun b xs z=>G.tups b xs (un.tups b xs (I2.base.tups b xs z)),fun b o u z=>G.frzs b o u (un.frzs b o u (I2.base.frzs b o u z)),fun b ps z=>?_,?_⟩,fun b o z hb=>?_,q⟩
 ·have z2:=I2.base.keep b o z n hb (noE b)
  have n2:=I2.base.free b o z n (noE b)
  exact hB (nbC z) (G.keep b o (un.keep b o z2 n2 (nofr0 I2 z hb) (nfp z)) (un.free b o z2 n2 (nfp z)) (nofr0 I2 z hb))
 ·obtain⟨o2,z2⟩:=I2.base.there b o z (noE b)
  obtain⟨o3,z3⟩:=un.there b o2 z2 (nfp z)
  obtain⟨o4,z4⟩:=G.there b o3 z3 (nofr0 I2 z hb)
  exact⟨o4,hB (nbC z) z4⟩
 ·obtain⟨o2,z2⟩:=I2.base.there b o z (noE b)
  obtain⟨o3,z3⟩:=un.there b o2 z2 (nfp z)
  exact G.free b o3 z3 (un.free b o2 z2 (I2.base.free b o z n (noE b)) (nfp z))
 ·obtain⟨m1,y1⟩:=I2.base.tbls b ps z
  obtain⟨m2,y2⟩:=un.tbls b _ y1
  obtain⟨m3,y3⟩:=G.tbls b _ y2
  exact⟨m1++m2++m3,by rw [y3];simp [Array.append_assoc]⟩
 ·have hCn:H' C=none:=G.free C oC hoC hC1
  intro b u hu
  refine (G.hok b u hu).stay (fun c v hc z=>hB ?_ z) (fun _ z=>z) fun _ _ z=>z
  rintro rfl
  rcases hc with hc | hc
  ·rw [hc,hu] at hCn;cases hCn
  ·rw [hCn] at hc;cases hc
 ·obtain⟨_,o',ho',hd⟩:=I2.ok.funs.mem hb
  rw [show (cxOf (CXE P w) P w K mg base N qual sc0 f cd A outer s0 H0 E).s₀.heap.get? b=some o from z] at ho';cases ho'
  have hbs:b∈frs (envOfC qual sc0 s0.heap.objs.size f cd :: outer):=List.mem_cons_of_mem _ hb
  obtain⟨_,y1⟩:=I2.base.slot b o z (I2.ok.frf b hb) hb (noE b)
  obtain⟨_,y2⟩:=un.slot b _ y1 (I2.stkFree b hbs) hbs (nfp z)
  obtain⟨_,y3⟩:=sl b _ y2 hbs
  obtain⟨_,y4⟩:=up b _ y3 hd
  have y5:=(sb.2 b (nbC z)).trans y4
  obtain⟨sl6,y6⟩:=up5 b _ y5 hd
  exact⟨sl6,y6⟩
end
@[reducible] def blkE (X:Cx) (x:Str) (scope:Scope) (C:Addr) (s:Shared) (H:Hp) (fp:List Addr) (E:XK):Cx:=
 (blk X x [] scope [] C s H fp).wish (fun e s'=>∃pins' σ' H1 s1,Inv (blk X x [] scope [] C s H fp) pins' σ' H1 s1∧CXE X.prog X.w X.stack H1 s1 E e s')
theorem passB {X:Cx} {x:Str} {scope:Scope} {C:Addr} {s:Shared} {H:Hp} {fp:List Addr} {E:XK}:Passes (CXE X.prog X.w) (blkE X x scope C s H fp E) E:=fun pins σ H' s1 _ _ I c=>⟨pins,σ,H',s1,I.unwish,c⟩
section
variable {P:Program} {w:World} {K:W.Frag} {mg:Str->Option Value} {base:Heap} {N:List Str} {qual:Str} {sc0:Scope} {f:Addr} {cd:Value} {A:Around} {outer:List Env} {s0:Shared} {H0:Hp} {E:XK}
 {elt iter:Expr} {x:Str} {px:Pos} {scope:Scope} {pos:Pos} {te:TE} {wi:TI}
theorem pe_lcompE (hA:A.handled=none) (B:BlkOk (cxOf (CXE P w) P w K mg base N qual sc0 f cd A outer s0 H0 E) x [] scope []) (hi:PI (cxOf (CXE P w) P w K mg base N qual sc0 f cd A outer s0 H0 E) (.Name x px) iter wi)
  (he:∀C s H fp,PE (blkE (cxOf (CXE P w) P w K mg base N qual sc0 f cd A outer s0 H0 E) x scope C s H fp E) elt te)
  (hfree:∀y∈scope.names,y.2≠.free:=by decide +kernel) (hrel:relabel scope (envOfC qual sc0 s0.heap.objs.size f cd)=scope:=by rfl)
  (hs:∀v,foldedSetIterable iter (envOfC qual sc0 s0.heap.objs.size f cd) v=pure v:=by intro _;rfl):
  PE (cxOf (CXE P w) P w K mg base N qual sc0 f cd A outer s0 H0 E) (.ListComp elt [⟨.Name x px,iter,[],0⟩] scope pos) (tComp [] wi te):=by
 intro pins s σ H Q I h
 refine wpAny_ListComp hfree B.kind B.names (thn (hi pins s σ H _ I h) fun v s1 h1=>thn h1 fun itv s2 h2=>?_) hs
 obtain⟨it,fp,tn,J,H2,e,I2,T,st,hf,rd⟩:=h2
 subst e
 refine wpAny_newObj_type ?_ (by show 0<=sizeLine;exact Nat.zero_le _)
 have hD:H2 s2.heap.objs.size=none:=I2.hok.fresh (Nat.le_refl _)
 have I3:=I2.lnew (ys:=[]) (its:=[]) (t':=s2.toks) .nil (Nat.zero_le _)
 generalize hs3:({ s2 with heap:=s2.heap.push { cls:=.type "list",data:=.seq ([]:List Value).toArray },toks:=s2.toks }:Shared)=s3 at I3
 have sz3:s3.heap.objs.size=s2.heap.objs.size+1:=by rw [← hs3];exact Heap.size_push ..
 have up3:∀b o,s2.heap.get? b=some o->s3.heap.get? b=some o:=fun b o e=>by rw [← hs3];exact Heap.get?_push_of_some _ e
 have ltf:∀b∈fp,b < s2.heap.objs.size:=fun b hb=>by
  obtain⟨o,e,_⟩:=T.obj 0 _ st b hb
  exact Heap.lt_size e
 have hf3:∀b∈fp,FpOk (cxOf (CXE P w) P w K mg base N qual sc0 f cd A outer s0 H0 E) pins (upd H2 s2.heap.objs.size (.lst [])) b:=fun b hb=>by
  obtain⟨f0,r⟩:=hf b hb
  exact⟨by rw [upd_ne (Nat.ne_of_lt (ltf b hb))];exact f0,r⟩
 have st3:tn 0 s3.heap:=T.keep 0 _ _ st fun b _ o e=>up3 b o e
 obtain⟨W,⟨m0,w0⟩,turn⟩:=rd _ hD
 refine wpAny_newFunctionEnv B.nocell (by intro y hy;simp at hy) (fun h₁ hns₁ hsb₁=>?_) B.kind
 have hfC:∀b∈fp,b≠s3.heap.objs.size:=fun b hb=>Nat.ne_of_lt (by rw [sz3];exact Nat.lt_succ_of_lt (ltf b hb))
 have up4:∀b o,s3.heap.get? b=some o->h₁.get? b=some o:=fun b o e=>hsb₁.extBut b o (Nat.ne_of_lt (Heap.lt_size e)) (Heap.get?_push_of_some _ e)
 generalize hs4:({ s3 with heap:=h₁,toks:=s3.toks+([]:List (Str×Value)).length }:Shared)=s4
 have h4:s4.heap=h₁:=by rw [← hs4]
 have I4:Inv (blk (cxOf (CXE P w) P w K mg base N qual sc0 f cd A outer s0 H0 E) x [] scope [] s3.heap.objs.size s3 (upd H2 s2.heap.objs.size (.lst [])) fp) [] (bst [] σ none) (upd H2 s2.heap.objs.size (.lst [])) s4:=
  blk_start B I3 hf3 rfl hfC (by rw [← hs4]) (by rw [← hs4]) (fun b o e=>by rw [h4];exact up4 b o e) (by rw [h4];exact hns₁)
 have st4:tn 0 s4.heap:=by rw [h4];exact T.keep 0 _ _ st3 fun b _ o e=>up4 b o e
 have stat:∀{H':Hp},(∀b∈fp,H' b=none)->∀b∈fp,FpOk (blk (cxOf (CXE P w) P w K mg base N qual sc0 f cd A outer s0 H0 E) x [] scope [] s3.heap.objs.size s3 (upd H2 s2.heap.objs.size (.lst [])) fp) [] H' b:=fun {H'} hn b hb=>by
  obtain⟨_,f1,f2,f3,f4,f5⟩:=hf b hb
  refine⟨hn b hb,hfC b hb,fun z=>?_,.inl hb,fun y c e=>f4 y c (B.sub y c e),fun p hp=>absurd (show p∈([]:List (Addr×Obj)) from hp) (by simp)⟩
  rcases List.mem_cons.mp (I2.stkSub b z) with q | q
  ·exact f1 q
  ·exact f2 q
 have unO:∀{pins':List (Addr×Obj)} {σ':St} {H5:Hp} {s6:Shared},Inv (blk (cxOf (CXE P w) P w K mg base N qual sc0 f cd A outer s0 H0 E) x [] scope [] s3.heap.objs.size s3 (upd H2 s2.heap.objs.size (.lst [])) fp) pins' σ' H5 s6->
   Un (frs (envOfC qual sc0 s0.heap.objs.size f cd :: outer)) fp H2 H5 s2.heap s6.heap∧s6.os=s2.os:=fun {pins' σ' H5 s6} I6=>by
  refine⟨?_,?_⟩
  ·have u1:Un (frs (envOfC qual sc0 s0.heap.objs.size f cd :: outer)) fp H2 (upd H2 s2.heap.objs.size (.lst [])) s2.heap s3.heap:=Un.laid up3 (Nat.le_refl _) hD
   exact u1.trans I6.base
  ·have:=I6.os
   rw [show (blk (cxOf (CXE P w) P w K mg base N qual sc0 f cd A outer s0 H0 E) x [] scope [] s3.heap.objs.size s3 (upd H2 s2.heap.objs.size (.lst [])) fp).s₀.os=s2.os by rw [← hs3]] at this
   exact this
 have hfp0:∀b∈fp,s0.heap.objs.size<=b:=fun b hb=>by
  obtain⟨_,_,_,f3,_⟩:=hf b hb
  rcases f3 with z | z
  ·exact absurd (show b∈([]:List Addr) from z) (by simp)
  ·exact z
 have key:∀env':Env,env'=compEnvC scope [] s3.heap.objs.size (envOfC qual sc0 s0.heap.objs.size f cd)->
   codeAny (model P w) (A.deeper (envOfC qual sc0 s0.heap.objs.size f cd)) (.compStart (.ListComp elt [⟨.Name x px,iter,[],0⟩] scope pos) 0 (.ref it) (.ref s2.heap.objs.size) env') (fun r s'=>∃m,s'.heap.Ns s3.heap.objs.size m∧∀h',Heap.SameBut s3.heap.objs.size s'.heap h'->
    match r with | .ok _=>EP (cxOf (CXE P w) P w K mg base N qual sc0 f cd A outer s0 H0 E) pins σ Q (.ref s2.heap.objs.size) { s' with heap:=h' } | .error x=>wpAny (model P w) (A.deeper (envOfC qual sc0 s0.heap.objs.size f cd)) (PySem.passOn "comprehension.variables-let-go" x env':Sem Value) (EP (cxOf (CXE P w) P w K mg base N qual sc0 f cd A outer s0 H0 E) pins σ Q) (cxOf (CXE P w) P w K mg base N qual sc0 f cd A outer s0 H0 E).xe { s' with heap:=h' }) s4:=by
  rintro _ rfl
  obtain⟨RR,hRR⟩:∃RR:Result->Shared->Prop,RR=fun r s'=>∃m,s'.heap.Ns s3.heap.objs.size m∧∀h',Heap.SameBut s3.heap.objs.size s'.heap h'->
    match r with | .ok _=>EP (cxOf (CXE P w) P w K mg base N qual sc0 f cd A outer s0 H0 E) pins σ Q (.ref s2.heap.objs.size) { s' with heap:=h' } | .error x=>wpAny (model P w) (A.deeper (envOfC qual sc0 s0.heap.objs.size f cd)) (PySem.passOn "comprehension.variables-let-go" x (compEnvC scope [] s3.heap.objs.size (envOfC qual sc0 s0.heap.objs.size f cd)):Sem Value) (EP (cxOf (CXE P w) P w K mg base N qual sc0 f cd A outer s0 H0 E) pins σ Q) (cxOf (CXE P w) P w K mg base N qual sc0 f cd A outer s0 H0 E).xe { s' with heap:=h' }:=⟨_,rfl⟩
  rw [← hRR]
  have herr:∀(e:Value) (s':Shared),(blkE (cxOf (CXE P w) P w K mg base N qual sc0 f cd A outer s0 H0 E) x scope s3.heap.objs.size s3 (upd H2 s2.heap.objs.size (.lst [])) fp E).xe e s'->
    notedBy (model P w) (A.deeper (envOfC qual sc0 s0.heap.objs.size f cd)) (compEnvC scope [] s3.heap.objs.size (envOfC qual sc0 s0.heap.objs.size f cd)) (fun x s'=>RR (.error x) s') e s':=fun e s' hx=>by
   obtain⟨pins',σ',H1,s1',I1,c⟩:=hx
   obtain⟨u1,o1⟩:=unO I1
   obtain⟨m1,ns1,_⟩:=I1.loc
   refine comp_err (cenv:=compEnvC scope [] s3.heap.objs.size (envOfC qual sc0 s0.heap.objs.size f cd)) (RE:=fun x s'=>RR (.error x) s') I2 (show s2.heap.objs.size<=s3.heap.objs.size by rw [sz3];exact Nat.le_succ _) u1 hfp0 ns1 I1.free o1 c rfl fun e h3 hh=>?_
   obtain⟨m,hm,hk⟩:=hh
   rw [hRR]
   exact⟨m,hm,fun h4 sb=>wpAny_mono (hk h4 sb) (fun _ _ z=>z.elim) fun _ _ z=>z⟩
  have loop:codeAny (model P w) (A.deeper (envOfC qual sc0 s0.heap.objs.size f cd)) (.compLoop (.ListComp elt [⟨.Name x px,iter,[],0⟩] scope pos) 0 (.ref it) (.ref s2.heap.objs.size) (compEnvC scope [] s3.heap.objs.size (envOfC qual sc0 s0.heap.objs.size f cd))) RR s4:=by
   refine compLoop_err (fun n s'=>∃i H' o,Inv (blk (cxOf (CXE P w) P w K mg base N qual sc0 f cd A outer s0 H0 E) x [] scope [] s3.heap.objs.size s3 (upd H2 s2.heap.objs.size (.lst [])) fp) [] (bst [] σ o) H' s'∧tn i s'.heap∧(∀b∈fp,H' b=none)∧W i n H') ?_ m0
    ⟨0,_,none,I4,st4,fun b hb=>(hf3 b hb).1,w0⟩
   rintro n s5 ⟨i,H5,o5,I5,st5,fr5,w5⟩
   rcases turn i n H5 w5 with ⟨stop,q⟩ | ⟨go,N',hN',step⟩
   ·refine thn (T.done (blk (cxOf (CXE P w) P w K mg base N qual sc0 f cd A outer s0 H0 E) x [] scope [] s3.heap.objs.size s3 (upd H2 s2.heap.objs.size (.lst [])) fp) rfl rfl rfl rfl i [] s5 _ H5 _ I5 (stat fr5) st5 stop) fun r s6 ⟨hr,I6⟩=>?_
    subst hr
    obtain⟨m6,hn6,_⟩:=I6.loc
    obtain⟨un,os6⟩:=unO I6
    have J6:Inv (cxOf (CXE P w) P w K mg base N qual sc0 f cd A outer s0 H0 E) pins σ H5 s6:=by
     refine I2.call' os6 un I6.hok I6.bare fun b hb=>?_
     obtain⟨_,f1,f2,f3,f4,f5⟩:=hf b hb
     exact⟨f3,f1,f4,f5⟩
    have fC:FpOk (cxOf (CXE P w) P w K mg base N qual sc0 f cd A outer s0 H0 E) pins H5 s3.heap.objs.size:=I3.fpOk (Nat.le_refl _) I6.free
    show RR (.ok .next) s6
    rw [hRR]
    exact⟨m6,hn6,fun h' sb=>⟨.ref _,H5,J6.turned (t':=s6.toks) (fun b o hb e=>(sb.2 b hb).trans e) fC.1 fC.2.1 fC.2.2.2.1 fC.2.2.2.2.1 fC.2.2.2.2.2,rfl,q⟩⟩
   ·refine thn (T.item (blk (cxOf (CXE P w) P w K mg base N qual sc0 f cd A outer s0 H0 E) x [] scope [] s3.heap.objs.size s3 (upd H2 s2.heap.objs.size (.lst [])) fp) rfl rfl rfl rfl i [] s5 _ H5 _ I5 (stat fr5) st5 go) fun r s6 ⟨u,hr,h6⟩=>?_
    subst hr
    refine thn h6 fun _ s7 ⟨v,H7,I7,r7,y7,st7,fr7⟩=>?_
    have I7':=I7.pinned (stat fr7) (T.obj _ _ st7)
    refine blk_store B I7' r7 fun s8 I8=>?_
    have e8:=he _ _ _ _ _ s8 _ H7 _ (I8.wish _) (step v H7 y7)
    refine wpAny_mono e8 (fun y s9 ⟨yv,H9,I9,r9,ys,hD9,hz,n9⟩=>?_) herr
    have a9:=mt_append (X:=blk (cxOf (CXE P w) P w K mg base N qual sc0 f cd A outer s0 H0 E) x [] scope [] s3.heap.objs.size s3 (upd H2 s2.heap.objs.size (.lst [])) fp) _ s9 _ H9 (.ref s2.heap.objs.size) [yv] (.ref s2.heap.objs.size) [y] (fun _ H10=>H10=upd H9 s2.heap.objs.size (.lst (ys++[yv]))) I9.unwish rfl (.cons r9 .nil)
     ⟨_,ys,yv,rfl,rfl,hD9,hz,rfl⟩
    refine wpAny_mono a9 (fun _ s10 ⟨_,H10,I10,_,e10⟩=>?_) fun _ _ z=>False.elim z
    subst e10
    obtain⟨m',hm,w9⟩:=hN' _ n9
    refine⟨m',hm,i+1,_,some v,I10.unpinned,T.keep _ _ _ st7 fun b hb o e=>(I10.pin (b,o) (List.mem_append_right _ (List.mem_append_right _ (mem_pinsAt hb e)))).1,fun b hb=>?_,w9⟩
    obtain⟨o,e,_⟩:=T.obj _ _ st7 b hb
    exact (I10.pin (b,o) (List.mem_append_right _ (List.mem_append_right _ (mem_pinsAt hb e)))).2.1
  exact codeAny_compStart_list loop (T.self _ 0 _ _ _ st4 loop)
 exact key _ (by unfold compEnvC;rw [hrel];rfl)
end
section
variable {X:Cx} {k:Nat} {f C:Addr} {fd:FuncData} {ps:List Str} {sp:Sp} {x:Str} {p pos:Pos} {e:Expr} {es:List Expr} {t:TA}
def rInsert:V->List V->Hp->VK->Prop:=fun x vs H Q=>∃l xs,∃(k:Nat),∃y,x=.ref l∧vs=[.int (k:Int),y]∧H l=some (.lst xs)∧k<=xs.length∧xs.length<=900∧Q .non (upd H l (.lst (xs.take k++y :: xs.drop k)))
theorem a_insert {x:V} {vs:List V} {H:Hp} {Q:VK}:rInsert x vs H Q=∃l xs,∃(k:Nat),∃y,x=.ref l∧vs=[.int (k:Int),y]∧H l=some (.lst xs)∧k<=xs.length∧xs.length<=900∧Q .non (upd H l (.lst (xs.take k++y :: xs.drop k))):=rfl
theorem a_popAt {x:V} {vs:List V} {H:Hp} {Q:VK}:rPopAt x vs H Q=∃l xs i k y,x=.ref l∧vs=[.int i]∧H l=some (.lst xs)∧-(2 ^ 63)<=i∧i < 2 ^ 63∧seqIndex? i xs.length=some k∧xs[k]?=some y∧Q y (upd H l (.lst (xs.eraseIdx k))):=rfl
end
def tFst2 (x y:Str) (te:TE):TE:=fun σ H Q=>(Str.empty++x).length<=sizeLine∧te σ H fun v H1=>∃i,v=.int i∧i.natAbs.log2 < 1920∧(Str.empty++x++Str.ofString (toString i)).length<=sizeLine∧(Str.empty++x++Str.ofString (toString i)++y).length<=sizeLine∧Q (.str (Str.empty++x++Str.ofString (toString i)++y)) H1
theorem a_fst2 {x y:Str} {te:TE} {σ:St} {H:Hp} {Q:VK}:tFst2 x y te σ H Q=((Str.empty++x).length<=sizeLine∧te σ H fun v H1=>∃i,v=.int i∧i.natAbs.log2 < 1920∧(Str.empty++x++Str.ofString (toString i)).length<=sizeLine∧(Str.empty++x++Str.ofString (toString i)++y).length<=sizeLine∧Q (.str (Str.empty++x++Str.ofString (toString i)++y)) H1):=rfl
theorem pe_fst2 {X:Cx} {x y:Str} {j j2:Nat} {e:Expr} {te:TE} {p1 p2 p3 p4:Pos} (he:PE X e te) (hev:evalEach [.Constant (.str x) j p1,.FormattedValue e (-1) none p2,.Constant (.str y) j2 p4] X.env=[eval (.Constant (.str x) j p1) X.env,eval (.FormattedValue e (-1) none p2) X.env,eval (.Constant (.str y) j2 p4) X.env]:=by rfl):
  PE X (.JoinedStr [.Constant (.str x) j p1,.FormattedValue e (-1) none p2,.Constant (.str y) j2 p4] p3) (tFst2 x y te):=by
 intro pins s σ H Q I h
 refine wpAny_JoinedStr ?_
 rw [hev]
 refine Calls.Constant_str ⟨x,_,rfl,?_⟩
 obtain⟨l1,hx⟩:_∧_:=h
 have h2:=he pins { s with toks:=s.toks+1 } σ H _ (I.tok _) hx
 refine⟨l1,?_⟩
 refine wpAny_FormattedValue_plain (wpAny_mono h2 (fun v s₁ z=>?_) fun _ _ y=>y)
 obtain⟨v',H1,I1,rv,i,rfl,hd,l2,l3,q⟩:=z
 obtain⟨t,rfl⟩:=rv
 refine wpAny_formatField_int hd ⟨_,_,rfl,l2,?_⟩
 refine Calls.Constant_str ⟨y,_,rfl,l3,l3,.str _,H1,((I1.tok _).tok _).tok _,⟨_,rfl⟩,q⟩
section
variable {prog:Program} {w:World} {A:Around} {E:Value->Shared->Prop} {s:Shared}
end
section
variable {X:Cx}
end
section
variable {X:Cx} {pins:List (Addr×Obj)} {σ:St} {H H':Hp} {s:Shared} {a:Addr} {o:Obj} {xs:List V}
end
section
variable {X:Cx}
def rStarts:V->List V->Hp->VK->Prop:=fun x vs H Q=>∃a b,x=.str a∧vs=[.str b]∧Q (.bl (Txt.startswith a b)) H
theorem mt_starts:MtR X "str.startswith" rStarts:=by
 intro pins s σ H x xs v us Q I rx rs h
 obtain⟨a,b,rfl,rfl,q⟩:=h
 obtain⟨t,rfl⟩:=rx
 obtain⟨u,rfl,ru⟩:=Vals.one rs
 obtain⟨t',rfl⟩:=ru
 exact SC.startswith ⟨.bl _,H,I,rfl,q⟩
def rEnds:V->List V->Hp->VK->Prop:=fun x vs H Q=>∃a b,x=.str a∧vs=[.str b]∧Q (.bl (Txt.endswith a b)) H
theorem mt_ends:MtR X "str.endswith" rEnds:=by
 intro pins s σ H x xs v us Q I rx rs h
 obtain⟨a,b,rfl,rfl,q⟩:=h
 obtain⟨t,rfl⟩:=rx
 obtain⟨u,rfl,ru⟩:=Vals.one rs
 obtain⟨t',rfl⟩:=ru
 exact SC.endswith ⟨.bl _,H,I,rfl,q⟩
theorem vals_strs:∀(xs:List Str) (t:Tok),Vals (xs.map V.str) (strsFrom t xs)
 | [],_=>.nil
 | _ :: r,t=>.cons ⟨_,rfl⟩ (vals_strs r _)
def newS (H:Hp) (Q:VK) (xs:List Str):Prop:=∀p,H p=none->Q (.ref p) (upd H p (.lst (xs.map V.str)))
def rSplit:V->List V->Hp->VK->Prop:=fun x vs H Q=>∃a b,x=.str a∧vs=[.str b]∧b.length≠0∧a.length<=100000∧(Txt.split a b).length<=100000∧newS H Q (Txt.split a b)
theorem mt_split:MtR X "str.split" rSplit:=by
 intro pins s σ H x xs v us Q I rx rs h
 obtain⟨a,b,rfl,rfl,b0,la,lp,q⟩:=h
 obtain⟨t,rfl⟩:=rx
 obtain⟨u,rfl,ru⟩:=Vals.one rs
 obtain⟨t',rfl⟩:=ru
 have hy:(b.length == 0)=false:=by simpa using b0
 have sz:(100000:Nat)<=sizeLine:=by decide
 unfold Txt.split at q lp
 cases h1:(decide (a.length < b.length) || decide (Builtin.Str.strKind a < Builtin.Str.strKind b)) with
 | true=>
  rw [h1,if_pos rfl] at q
  refine call_meets F.slot_str_split (typeIs_str _ _ _) F.entry_str_split (F.args_str_split_2 _ _) (meets_str_split_cannot_occur a b t t' h1) ?_
  exact⟨.ref s.heap.objs.size,_,I.laid (t':=s.toks) (fun b ob q=>Heap.get?_push_of_some _ q) (Nat.le_refl _) (show ObjOk X.prog X.w _ _ _ (.lst [V.str a]) from ⟨by show 1<=sizeLine;decide,[Value.str a t],0,.cons ⟨_,rfl⟩ .nil,Heap.get?_push_size _ rfl⟩),rfl,q _ (I.hok.fresh (Nat.le_refl _))⟩
 | false=>
  rw [h1,if_neg (by decide)] at q lp
  cases hf:(Builtin.Str.occurrences a b 0 a.length (a.length+1)).isEmpty with
  | true=>
   rw [hf,if_pos rfl] at q
   refine call_meets F.slot_str_split (typeIs_str _ _ _) F.entry_str_split (F.args_str_split_2 _ _) (meets_str_split_not_found a b t t' h1 hy hf) ?_
   exact⟨.ref s.heap.objs.size,_,I.laid (t':=s.toks) (fun b ob q=>Heap.get?_push_of_some _ q) (Nat.le_refl _) (show ObjOk X.prog X.w _ _ _ (.lst [V.str a]) from ⟨by show 1<=sizeLine;decide,[Value.str a t],0,.cons ⟨_,rfl⟩ .nil,Heap.get?_push_size _ rfl⟩),rfl,q _ (I.hok.fresh (Nat.le_refl _))⟩
  | false=>
   rw [hf,if_neg (by decide)] at q lp
   refine call_meets F.slot_str_split (typeIs_str _ _ _) F.entry_str_split (F.args_str_split_2 _ _) (meets_str_split_sep a b t t' h1 hy hf (Nat.le_trans la sz) (Nat.le_trans lp sz)) ?_
   refine⟨.ref s.heap.objs.size,_,I.laid (t':=s.toks+_) (fun b ob q=>Heap.get?_push_of_some _ q) (Nat.le_refl _) (show ObjOk X.prog X.w _ _ _ (.lst (List.map V.str _)) from ⟨by rw [List.length_map];exact Nat.le_trans lp sz,_,0,vals_strs _ _,Heap.get?_push_size _ rfl⟩),rfl,q _ (I.hok.fresh (Nat.le_refl _))⟩
def rPartition:V->List V->Hp->VK->Prop:=fun x vs H Q=>∃a b,x=.str a∧vs=[.str b]∧b.length≠0∧a.length<=100000∧∀p,H p=none->Q (.ref p) (upd H p (.tup [.str (Txt.partition a b).1,.str (Txt.partition a b).2.1,.str (Txt.partition a b).2.2]))
def rIntS:List V->Hp->VK->Prop:=fun xs H Q=>∃a n,xs=[.str a]∧a.length<=640∧PySem.intText? a=some n∧Q (.int n) H
theorem call_intS:CallR X (.type "int") rIntS:=by
 intro pins s σ H xs us Q I rs h
 obtain⟨a,n,rfl,la,hn,q⟩:=h
 obtain⟨u,rfl,ru⟩:=Vals.one rs
 obtain⟨t',rfl⟩:=ru
 exact PySem.W.KIN.call_text hn la ⟨.int n,H,I.tok _,⟨_,rfl⟩,q⟩
theorem vals3S {a b c:Str} {t u v:Tok}:Vals [V.str a,V.str b,V.str c] [Value.str a t,Value.str b u,Value.str c v]:=.cons ⟨_,rfl⟩ (.cons ⟨_,rfl⟩ (.cons ⟨_,rfl⟩ .nil))
theorem mt_partition:MtR X "str.partition" rPartition:=by
 intro pins s σ H x xs v us Q I rx rs h
 obtain⟨a,b,rfl,rfl,b0,la,q⟩:=h
 obtain⟨t,rfl⟩:=rx
 obtain⟨u,rfl,ru⟩:=Vals.one rs
 obtain⟨t',rfl⟩:=ru
 have hy:(b.length == 0)=false:=by simpa using b0
 refine call_meets F.slot_str_partition (typeIs_str _ _ _) F.entry_str_partition (F.args_str_partition_2 _ _) (meets_str_partition a b t t' hy (Nat.le_trans la (by decide))) ?_
 unfold Txt.partition at q
 cases hc:Builtin.Str.occurrences a b 0 a.length 1 with
 | nil=>
  rw [hc] at q
  exact⟨.ref s.heap.objs.size,_,I.laid (t':=s.toks+1) (fun b ob q=>Heap.get?_push_of_some _ q) (Nat.le_refl _) (show ObjOk X.prog X.w _ _ _ (.tup [V.str _,V.str _,V.str _]) from ⟨by show 3<=sizeLine;decide,_,vals3S,IsTup.new _ _⟩),rfl,q _ (I.hok.fresh (Nat.le_refl _))⟩
 | cons i r=>
  rw [hc] at q
  exact⟨.ref s.heap.objs.size,_,I.laid (t':=s.toks+1+1) (fun b ob q=>Heap.get?_push_of_some _ q) (Nat.le_refl _) (show ObjOk X.prog X.w _ _ _ (.tup [V.str _,V.str _,V.str _]) from ⟨by show 3<=sizeLine;decide,_,vals3S,IsTup.new _ _⟩),rfl,q _ (I.hok.fresh (Nat.le_refl _))⟩
theorem strs_vals:∀(xs:List Str) (its:List Value),Vals (xs.map V.str) its->∃l:List (Str×Tok),strValues l=its∧l.map (·.1)=xs
 | [],its,h=>by cases h;exact⟨[],rfl,rfl⟩
 | x :: xs,its,h=>by
  cases h with
  | cons r rr=>
   obtain⟨t,rfl⟩:=r
   obtain⟨l,e1,e2⟩:=strs_vals xs _ rr
   exact⟨(x,t) :: l,by rw [← e1];rfl,by rw [← e2];rfl⟩
def rJoin (K:W.Frag):V->List V->Hp->VK->Prop:=fun x vs H Q=>∃a p xs,x=.str a∧vs=[.ref p]∧SqL K H p (xs.map V.str)∧(xs.map (·.length)).sum+xs.length * a.length<=100000∧Q (.str (Txt.join a xs)) H
theorem mt_join:MtR X "str.join" (rJoin X.K):=by
 intro pins s σ H x xs v us Q I rx rs h
 obtain⟨a,p,ys,rfl,rfl,hp,hl,q⟩:=h
 obtain⟨t,rfl⟩:=rx
 obtain⟨u,rfl,ru⟩:=Vals.one rs
 cases ru
 obtain⟨its,r',pl,hz⟩:=I.list hp
 obtain⟨l,e1,e2⟩:=strs_vals ys its r'
 have tl:Builtin.Str.tooLong ((l.map (·.1)).toArray.foldl (·+·.length+a.length) 0)=false:=by
  rw [StrLaws.joinTotal,e2]
  unfold Builtin.Str.tooLong
  have sz:(100000:Nat)<=sizeLine:=by decide
  exact decide_eq_false (by omega)
 refine call_meets F.slot_str_join (typeIs_str _ _ _) F.entry_str_join (F.args_str_join_2 _ _) (meets_str_join_list a t p l tl) ⟨by rw [e1];exact pl.isList,?_⟩
 refine post_join l ⟨joinFit_length tl,fun t' k=>?_⟩
 rw [e2]
 exact⟨.str _,H,I.tok _,⟨_,rfl⟩,q⟩
def rSlS:V->Option Int->Option Int->Hp->VK->Prop:=fun x lo hi H Q=>∃z,x=.str z∧z.length<=100000∧Q (.str (Txt.slice z lo hi)) H
theorem part_of {vl:Value} {lo:Option Int} (h:IsPart vl lo):∃p:Option (Int×Tok),vl=partValue p∧p.map (·.1)=lo:=by
 cases h with
 | none=>exact⟨none,rfl,rfl⟩
 | int i t=>exact⟨some (i,t),rfl,rfl⟩
theorem sl_str:SlR X rSlS:=by
 intro pins s σ H x v vl vu lo hi sl Q I rx hs pl pu h
 obtain⟨z,rfl,lz,q⟩:=h
 obtain⟨t,rfl⟩:=rx
 obtain⟨l,rfl,el⟩:=part_of pl
 obtain⟨u,rfl,eu⟩:=part_of pu
 refine⟨"str",_,F.slot_str_getitem.lookup,typeIs_str _ _ _,?_⟩
 refine wpAny_getItem_str_slice (l:=l) (u:=u) (st:=none) hs rfl ?_
 refine post_val_or_str ⟨Nat.le_trans (Txt.slice_le z _ _) (Nat.le_trans lz (by decide)),fun t' k=>?_⟩
 show EP X pins σ Q (.str (Txt.slice z (l.map (·.1)) (u.map (·.1))) t') _
 rw [el,eu]
 exact⟨.str _,H,I.tok _,⟨_,rfl⟩,q⟩
def ipS:TIp:=fun x y H Q=>∃i j,x=.str i∧y=.str j∧i.length+j.length<=sizeLine∧Q (.str (i++j)) H
theorem ip_addS:PIp X .Add ipS:=iop_add_str
end
def PIZ (X:Cx) (tg iter:Expr) (wi:TI):Prop:=
 ∀(pins:List (Addr×Obj)) (s:Shared) (σ:St) (H:Hp) (R:It->Hp->Prop),Inv X pins σ H s->s.toks≠0->wi σ H R->
  wpAny (model X.prog X.w) X.A (eval iter X.env) (fun v s1=>wpAny (model X.prog X.w) X.A (pyIter v) (PIE X pins σ tg R) X.xe s1) X.xe s
def PSZ (X:Cx) (st:Stmt) (t:TS):Prop:=
 ∀(pins:List (Addr×Obj)) (s:Shared) (σ:St) (H:Hp) (D:Ends),Inv X pins σ H s->s.toks≠0->t D σ H->wpAny (model X.prog X.w) X.A (exec st X.env) (SP X pins D) X.xe s
def PEZ (X:Cx) (e:Expr) (te:TE):Prop:=
 ∀(pins:List (Addr×Obj)) (s:Shared) (σ:St) (H:Hp) (Q:VK),Inv X pins σ H s->s.toks≠0->te σ H Q->wpAny (model X.prog X.w) X.A (eval e X.env) (EP X pins σ Q) X.xe s
section
variable {X:Cx} {tg:Expr}
theorem ps_forZ {iter:Expr} {body:List Stmt} {wi:TI} {g:TG} {tb:TS} {pos:Pos} (hp:PassesOwn (model X.prog X.w) X.A X.env X.xe) (hc:X.calm=true) (hi:PIZ X tg iter wi) (hg:PG X tg g) (hb:PSs X body tb)
  (hs:∀x,foldedSetIterable iter X.env x=pure x:=by intro _;rfl):PSZ X (.For tg iter body [] pos) (tFor wi g tb):=by
 intro pins s σ H D I tk h
 refine wpAny_For (thn (hi pins s σ H _ I tk h) fun v s1 h1=>thn h1 fun itv s2 h2=>?_) hs
 obtain⟨it,fp,tn,J,H2,e,I2,T,st2,f2,W,⟨m0,w0⟩,turn⟩:=h2
 subst e
 have stat:∀{H':Hp},(∀b∈fp,H' b=none)->∀b∈fp,FpOk X pins H' b:=fun hn b hb=>⟨hn b hb,(f2 b hb).2⟩
 refine codeAny_forLoop_any (fun n s'=>∃i σ' H',Inv X pins σ' H' s'∧tn i s'.heap∧(∀b∈fp,H' b=none)∧W i n σ' H') ?_ m0 ⟨0,σ,H2,I2,st2,fun b hb=>(f2 b hb).1,w0⟩
 rintro n s3 ⟨i,σ3,H3,I3,st3,fr3,w3⟩
 rcases turn i n σ3 H3 w3 with ⟨stop,qn⟩ | ⟨go,N,hN,step⟩
 ·refine wpAny_passesOwn hp (thn (T.done X rfl rfl rfl hc i pins s3 σ3 H3 X.xe I3 (stat fr3) st3 stop) fun r s4 ⟨hr,I4⟩=>?_)
  subst hr
  exact wpAny_execs_nil ⟨σ3,H3,I4,qn⟩
 ·refine wpAny_passesOwn hp (thn (T.item X rfl rfl rfl hc i pins s3 σ3 H3 X.xe I3 (stat fr3) st3 go) fun r s4 ⟨u,hr,h4⟩=>?_)
  subst hr
  refine wpAny_passesOwn hp (thn h4 fun _ s5 ⟨x,H5,I5,r5,y5,st5,fr5⟩=>?_)
  have I5':=I5.pinned (stat fr5) (T.obj _ _ st5)
  refine wpAny_passesOwn hp (thn (hg _ s5 σ3 H5 x u _ I5' r5 (step x H5 y5)) fun _ s6 ⟨σ6,H6,I6,q6⟩=>?_)
  refine wpAny_passesOwn hp (thn (hb _ s6 σ6 H6 _ I6 q6) fun f s7 q7=>?_)
  have again:∀{σ7:St} {H7:Hp},Inv X (pins++pinsAt fp s5.heap) σ7 H7 s7->N σ7 H7->∃m,m < n∧∃i σ' H',Inv X pins σ' H' s7∧tn i s7.heap∧(∀b∈fp,H' b=none)∧W i m σ' H':=fun {σ7 H7} I7 n7=>by
   obtain⟨m',hm,w7⟩:=hN σ7 H7 n7
   refine⟨m',hm,i+1,σ7,H7,I7.unpinned,T.keep _ _ _ st5 fun b hb o e=>(I7.pin (b,o) (List.mem_append_right _ (List.mem_append_right _ (mem_pinsAt hb e)))).1,fun b hb=>?_,w7⟩
   obtain⟨o,e,d⟩:=T.obj _ _ st5 b hb
   exact (I7.pin (b,o) (List.mem_append_right _ (List.mem_append_right _ (mem_pinsAt hb e)))).2.1
  cases f with
  | next=>obtain⟨σ7,H7,I7,n7⟩:=q7;exact again I7 n7
  | cont=>obtain⟨σ7,H7,I7,n7⟩:=q7;exact again I7 n7
  | brk=>obtain⟨σ7,H7,I7,q7⟩:=q7;exact⟨σ7,H7,I7.unpinned,q7⟩
  | ret v=>obtain⟨x7,σ7,H7,I7,r7,q7⟩:=q7;exact⟨x7,σ7,H7,I7.unpinned,r7,q7⟩
theorem pi_listZ {l:Expr} {tl:TE} (hl:PEZ X l tl):PIZ X tg l (iList X.K tl):=by
 intro pins s σ H R I tk h
 refine thn (hl pins s σ H _ I tk h) fun v s1 ⟨x,H1,I1,r1,q1⟩=>?_
 obtain⟨a,e,⟨xs,hq⟩,q⟩:=q1
 subst e
 cases r1
 obtain⟨its,rv,p,hz⟩:=I1.list hq
 refine wpAny_pyIter_list p.isList ?_
 refine⟨s1.heap.objs.size,[s1.heap.objs.size],_,_,H1,rfl,I1.kept (t':=s1.toks) fun b o e=>Heap.get?_push_of_some _ e,turn_list a _,⟨_,Heap.get?_push_size _ rfl,rfl,rfl⟩,fun b hb=>?_,q⟩
 have e:b=s1.heap.objs.size:=by simpa using hb
 subst e
 exact I1.fpOk (Nat.le_refl _) (I1.hok.fresh (Nat.le_refl _))
end
section
variable {o e:Expr} {es:List Expr} {to:TE} {t:TA} {name:Str} {apos cpos:Pos} {T id:String} {r:V->List V->Hp->VK->Prop}
theorem pe_bmZ (pa:PlainAttrs T) (slot:Slot T name id) (hty:typeOf (.builtin id)=pure (.type "method_descriptor")) (hm:MtR X id r) (ho:PEZ X o to) (ha:PA X (e :: es) t)
  (hbase:attributeBase o name X.env (eval o X.env)=eval o X.env:=by rfl)
  (hfew:((backTo cpos (starEach (e :: es) X.env)).all (fun x=>!x.1) && (backToKw cpos (keywordEach [] X.env)).all (fun x=>x.1.isSome)
   && decide ((e :: es).length+([]:List Keyword).length+(if ([]:List Keyword).isEmpty then 0 else 1) < 30))=true:=by rfl)
  (hline:(apos.endLine == cpos.line)=true:=by rfl) (hs:starEach (e :: es) X.env=(false,eval e X.env) :: starEach es X.env:=by rfl) (hplain:(backTo cpos (starEach es X.env)).any (·.1)=false:=by rfl):
  PEZ X (.Call (.Attribute o name apos) (e :: es) [] cpos) (tBM X.K T r to t):=by
 intro pins s σ H Q I tk h
 refine wpAny_Call_method_late hbase hfew hline rfl (thn (ho pins s σ H _ I tk h) fun v s1 ⟨x,H1,I1,r1,ty,q1⟩=>?_)
 obtain⟨h1,h2⟩:=tyV_is I1 r1 ty
 refine⟨T,id,pa,slot,hty,h1,h2,?_⟩
 have hA:=ha cpos pins s1 σ H1 _ I1 q1
 rw [hs] at hA ⊢
 refine Calls.callWith_builtin (by show (false || (backTo cpos (starEach es X.env)).any (·.1))=false;rw [hplain] <;> rfl) (Calls.evalArgs_plain ?_)
 exact thn hA fun us s2 ⟨vs,H2,I2,r2,q2⟩=>hm pins s2 σ H2 x vs v us Q I2 r1 r2 q2
end
section
variable {X:Cx} {pins:List (Addr×Obj)} {σ:St} {H:Hp} {s:Shared}
theorem store_okT {M:Model} {A:Around} {E:Value->Shared->Prop} {i:Nat} {x:Str} {v:V} {u:Value} {Q:Unit->Shared->Prop} (I:Inv X pins σ H s) (hN:X.N.Nodup) (hi:X.N[i]?=some x) (hk:X.env.scope.names.lookup x=some .local) (r:RelV v u)
  (h:∀s',Inv X pins (σ.set i (some v)) H s'->s'.toks≠0->Q () s'):wpAny M A (storeName X.env x u) Q E s:=by
 obtain⟨m,hn,hl⟩:=id I.loc
 have hcls:(X.env.scope.kind == .class || (X.env.scope.kind == .module && X.env.locals != X.env.globals))=false:=by rw [I.ok.kind];rfl
 have hiσ:i < σ.length:=by rw [I.len];exact (List.getElem?_eq_some_iff.mp hi).1
 have cne:=I.cne
 have tracked:∀{a:Addr} {h':Heap},(∃o,s.heap.get? a=some o∧H a=none)->Heap.SameBut a s.heap h'->HOk X.prog X.w H h':=fun {a h'} ha hs b ob e=>by
  obtain⟨_,_,hfree⟩:=ha
  refine (I.hok b ob e).stay (fun c w' hc q=>(hs.2 c ?_).trans q) (fun _ q=>q) fun _ _ q=>q
  rintro rfl
  rcases hc with rfl | hc
  ·rw [hfree] at e;cases e
  ·rw [hfree] at hc;cases hc
 refine wpAny_storeName_local hk hn (fun h' hn' hs=>?_) hcls
 obtain⟨oL,_,_,hoL,_⟩:=id hn
 refine h _ ⟨I.ok,I.os,I.bare,⟨fun b o e n hb hx=>?_,fun b o e n hb hx=>?_,I.base.free,fun b o e hx=>?_,I.base.tups,I.base.frzs,I.base.tbls⟩,⟨_,hn',fun j y v' e1 e2 e3=>?_⟩,fun y c e=>?_,I.free,I.freeC,fun p hp=>?_,tracked ⟨oL,hoL,I.free⟩ hs,by simpa using I.len⟩ (Nat.succ_ne_zero _)
 ·exact (hs.2 b (Nat.ne_of_lt (Nat.lt_of_lt_of_le (Heap.lt_size e) I.ok.above))).trans (I.base.keep b o e n hb hx)
 ·obtain⟨sl,e1⟩:=I.base.slot b o e n hb hx
  exact⟨sl,(hs.2 b (Nat.ne_of_lt (Nat.lt_of_lt_of_le (Heap.lt_size e) I.ok.above))).trans e1⟩
 ·obtain⟨o',e1⟩:=I.base.there b o e hx
  exact⟨o',(hs.2 b (Nat.ne_of_lt (Nat.lt_of_lt_of_le (Heap.lt_size e) I.ok.above))).trans e1⟩
 ·by_cases hj:j=i
  ·subst hj
   rw [hi] at e1;cases e1
   rw [List.getElem?_set_self hiσ] at e2
   cases e2
   exact⟨u,r,.inl ⟨hk,by simp⟩⟩
  ·rw [List.getElem?_set_ne (Ne.symm hj)] at e2
   obtain⟨u',r',q⟩:=hl j y v' e1 e2 e3
   refine⟨u',r',?_⟩
   rcases q with ⟨k,e⟩ | ⟨k,c,e,z⟩
   ·refine .inl ⟨k,?_⟩
    have:y≠x:=fun e=>hj (nodup_ix hN e1 (e ▸ hi))
    simp [this,e]
   ·exact .inr ⟨k,c,e,z.sameBut hs (cne y c e)⟩
 ·obtain⟨w',z⟩:=I.cell y c e
  exact⟨w',z.sameBut hs (cne y c e)⟩
 ·obtain⟨e,n,ne,nf,d⟩:=I.pin p hp
  exact⟨(hs.2 p.1 ne).trans e,n,ne,nf,d⟩
end
def PST (X:Cx) (st:Stmt) (t:TS):Prop:=
 ∀(pins:List (Addr×Obj)) (s:Shared) (σ:St) (H:Hp) (D:Ends),Inv X pins σ H s->t D σ H->wpAny (model X.prog X.w) X.A (exec st X.env) (fun f s'=>SP X pins D f s'∧s'.toks≠0) X.xe s
section
variable {X:Cx} {pos:Pos}
theorem ps_setT {i:Nat} {x:Str} {e:Expr} {te:TE} {pos':Pos} (hN:X.N.Nodup) (hi:X.N[i]?=some x) (hk:X.env.scope.names.lookup x=some .local) (he:PE X e te) (hs:swapsWith e (some (.Name x pos')) pos.line X.env=pure false:=by rfl):
  PST X (.Assign [.Name x pos'] e pos) (tAsg te (gName i)):=by
 intro pins s σ H D I h
 refine wpAny_Assign_Name (thn (he pins s σ H _ I h) fun v s1 q=>?_) hs
 obtain⟨y,H1,I1,r1,q1⟩:=q
 exact store_okT I1 hN hi hk r1 fun s2 I2 tk=>⟨⟨_,H1,I2,q1⟩,tk⟩
theorem pss_consZ {st st2:Stmt} {rest:List Stmt} {t t2 u:TS} (h1:PST X st t) (h2:PSZ X st2 t2) (h3:PSs X rest u):PSs X (st :: st2 :: rest) (tSeq t (tSeq t2 u)):=by
 intro pins s σ H D I h
 refine wpAny_execs_cons (thn (h1 pins s σ H { D with nx:=(tSeq t2 u) D } I h) fun f s1 q=>?_)
 cases f with
 | next=>
  obtain⟨⟨σ',H',I',q⟩,tk⟩:=q
  refine wpAny_execs_cons (thn (h2 pins s1 σ' H' { D with nx:=u D } I' tk q) fun f s2 q=>?_)
  cases f with
  | next=>
   obtain⟨σ',H',I',q⟩:=q
   exact h3 pins s2 σ' H' D I' q
  | ret v=>exact q
  | brk=>exact q
  | cont=>exact q
 | ret v=>exact q.1
 | brk=>exact q.1
 | cont=>exact q.1
theorem var_at {pins:List (Addr×Obj)} {s:Shared} {σ:St} {H:Hp} {i:Nat} {x:Str} {v:V} {E:Value->Shared->Prop} (I:Inv X pins σ H s) (e:σ[i]?=some (some v)) (hN:X.N[i]?=some x) (hk:X.env.scope.names.lookup x=some .local) (hd:(x == ("__debug__" : Str))=false):
  wpAny (model X.prog X.w) X.A (eval (.Name x pos) X.env) (fun u s'=>s'=s∧RelV v u) E s:=by
 obtain⟨m,hn,hl⟩:=I.loc
 obtain⟨u,r,l⟩:=hl i x v hN e (.inl hk)
 rcases l with ⟨_,hm⟩ | ⟨h,_⟩
 ·exact wpAny_Name (wpAny_loadName_local I.ok.kind hk hn hm ⟨rfl,r⟩) hd
 ·have hk':X.env.kindOf x=some .local:=hk
  rcases h with h | h <;> rw [hk'] at h <;> cases h
def tRepl (i:Nat) (y z:Str):TE:=fun σ H Q=>∃a,σ[i]?=some (some (.str a))∧a.length<=100000∧Q (.str (Txt.replace a y z)) H
theorem pe_replZ {i:Nat} {x y z:Str} {apos cpos p1 p2 p3:Pos} {j1 j2:Nat} (hN:X.N[i]?=some x) (hk:X.env.scope.names.lookup x=some .local) (hyz:(y == z)=false) (hz:z.length<=14) (hd:(x == ("__debug__" : Str))=false:=by decide)
  (hbase:attributeBase (.Name x p1) "replace" X.env (eval (.Name x p1) X.env)=eval (.Name x p1) X.env:=by rfl)
  (hfew:((backTo cpos (starEach [.Constant (.str y) j1 p2,.Constant (.str z) j2 p3] X.env)).all (fun x=>!x.1) && (backToKw cpos (keywordEach [] X.env)).all (fun x=>x.1.isSome)
   && decide (([.Constant (.str y) j1 p2,.Constant (.str z) j2 p3]:List Expr).length+([]:List Keyword).length+(if ([]:List Keyword).isEmpty then 0 else 1) < 30))=true:=by rfl)
  (hline:(apos.endLine == cpos.line)=true:=by rfl)
  (hs:starEach [.Constant (.str y) j1 p2,.Constant (.str z) j2 p3] X.env=[(false,eval (.Constant (.str y) j1 p2) X.env),(false,eval (.Constant (.str z) j2 p3) X.env)]:=by rfl):
  PEZ X (.Call (.Attribute (.Name x p1) "replace" apos) [.Constant (.str y) j1 p2,.Constant (.str z) j2 p3] [] cpos) (tRepl i y z):=by
 intro pins s σ H Q I tk h
 obtain⟨a,e,la,q⟩:=h
 refine wpAny_Call_method_late hbase hfew hline rfl (thn (var_at I e hN hk hd) fun v s1 q1=>?_)
 obtain⟨rfl,t,rfl⟩:=q1
 refine⟨"str","str.replace",F.plainAttrs_str,F.slot_str_replace,F.type_str_replace,typeIs_str _ _ _,(fun _ e=>nomatch e),?_⟩
 rw [hs]
 refine Calls.callWith_builtin rfl (Calls.evalArgs_plain ?_)
 show wpAny _ _ (spliced [(false,eval (.Constant (.str y) j1 p2) X.env),(false,eval (.Constant (.str z) j2 p3) X.env)]) _ _ _
 refine Calls.spliced_cons (Calls.Constant_str (Calls.spliced_cons (Calls.Constant_str (Calls.spliced_nil ?_))))
 refine SC.replaceW tk (Nat.succ_ne_zero _) (Nat.ne_of_lt (Nat.lt_succ_self _)) hyz (by omega) hz fun t' k=>?_
 exact⟨.str _,H,I.tok _,⟨_,rfl⟩,q⟩
def Its (z:Str):It:=⟨fun i _=>i < z.cps.size,fun i H x H'=>H'=H∧∃c,z.cps[i]?=some c∧x=.str ⟨#[c]⟩,fun i _=>z.cps.size<=i⟩
theorem turn_str {P:Program} {w:World} {K:W.Frag} {tg:Expr} {z:Str} {t:Tok} {it:Addr} {ty:String} (hn:["enumerate","zip","dict_itemiterator","dict_reverseitemiterator","odict_iterator","itertools.zip_longest","itertools.pairwise"].contains ty=false)
  (W:∀A':Around,A'.handled=none->Walks P w A' it [it] [it] z.cps.size (SignAt z) (fun i h=>h.IsStrIter it ty z t i))
  (hs:∀(A:Around) (i:Nat) (s:Shared) (Q:Value->Shared->Prop) (E:Value->Shared->Prop),s.heap.IsStrIter it ty z t i->Q (.ref it) s->wpAny (model P w) A (pyIter (.ref it)) Q E s):Turn P w K tg (Its z) [it] it (fun i h=>i<=z.cps.size∧h.IsStrIter it ty z t i) where
 mem:=by simp
 obj:=fun i h st b hb=>by
  have e:b=it:=by simpa using hb
  subst e
  obtain⟨_,o,e,c,d⟩:=st
  exact⟨o,e,fun v z=>by rw [d] at z;cases z⟩
 keep:=fun i h h' st k=>⟨st.1,by obtain⟨_,o,e,r⟩:=st;exact⟨o,k it (by simp) o e,r⟩⟩
 item:=by
  intro X hP hw hK hc i pins s σ H E I hf st hg
  subst hP hw hK
  obtain⟨f0,f1,f2,f3,f4,f5⟩:=hf it (by simp)
  refine (W X.A (I.ok.hd hc)).item i s _ _ hg st.2 fun v h' tk hv st' kk=>?_
  obtain⟨c,u,hc',rfl⟩:=hv
  have I1:Inv X pins σ H { s with heap:=h',toks:=tk }:=I.turned (fun b o hb e=>kk b o (by simpa using hb) e) f0 f1 f3 f4 f5
  obtain⟨o,e,cl,d⟩:=id st'
  have hi:i < z.cps.size:=hg
  exact⟨_,rfl,go_of (s:={ s with heap:=h',toks:=tk }) e cl d hn ⟨.str ⟨#[c]⟩,H,I1,⟨u,rfl⟩,⟨rfl,c,hc',rfl⟩,⟨by omega,st'⟩,fun b hb=>(hf b hb).1⟩⟩
 done:=by
  intro X hP hw hK hc i pins s σ H E I hf st hg
  subst hP hw hK
  obtain⟨f0,f1,f2,f3,f4,f5⟩:=hf it (by simp)
  have hi:z.cps.size<=i:=hg
  have e:i=z.cps.size:=Nat.le_antisymm st.1 hi
  subst e
  exact (W X.A (I.ok.hd hc)).done s _ _ st.2 fun h' tk kk=>⟨rfl,I.turned (fun b o hb e=>kk b o (by simpa using hb) e) f0 f1 f3 f4 f5⟩
 self:=fun A i s Q E st h=>hs A i s Q E st.2 h
def iStr (tl:TE):TI:=fun σ H R=>tl σ H fun x H1=>∃z,x=.str z∧R (Its z) H1
theorem pi_str {tg l:Expr} {tl:TE} (hl:PE X l tl):PI X tg l (iStr tl):=by
 intro pins s σ H R I h
 refine thn (hl pins s σ H _ I h) fun v s1 q=>?_
 obtain⟨x,H1,I1,r1,z,rfl,q⟩:=q
 obtain⟨t,rfl⟩:=r1
 have fp:∀b∈[s1.heap.objs.size],FpOk X pins H1 b:=fun b hb=>by
  have e:b=s1.heap.objs.size:=by simpa using hb
  subst e
  exact I1.fpOk (Nat.le_refl _) (I1.hok.fresh (Nat.le_refl _))
 cases ha:z.cps.all (· < 128)
 ·exact wpAny_pyIter_wide ha ⟨s1.heap.objs.size,[s1.heap.objs.size],_,_,H1,rfl,I1.kept (t':=s1.toks) fun b o e=>Heap.get?_push_of_some _ e,turn_str (by decide) (fun A' hA=>Walks.strWide hA _ z t) (fun _ _ _ _ _ st h=>wpAny_pyIter_striter_wide st h),⟨Nat.zero_le _,_,Heap.get?_push_size _ rfl,rfl,rfl⟩,fp,q⟩
 ·exact wpAny_pyIter_ascii ha ⟨s1.heap.objs.size,[s1.heap.objs.size],_,_,H1,rfl,I1.kept (t':=s1.toks) fun b o e=>Heap.get?_push_of_some _ e,turn_str (by decide) (fun A' hA=>Walks.strAscii hA _ z t) (fun _ _ _ _ _ st h=>wpAny_pyIter_striter_ascii st h),⟨Nat.zero_le _,_,Heap.get?_push_size _ rfl,rfl,rfl⟩,fp,q⟩
theorem meets_tindex3 (p:Addr) (v0 v1 v2 x:Value) (o:Obj) (hc:o.cls=.type "tuple") (hd:∃n,o.data=.seq [v0,v1,v2].toArray n) (b0 b1 b2:Bool) (j:Nat) (hj:(b0=true∧j=0)∨(b0=false∧b1=true∧j=1)∨(b0=false∧b1=false∧b2=true∧j=2)):
  Meets (Builtin.«tuple.index» ⟨[.ref p,x],[]⟩) (fun A R s=>s.heap.get? p=some o∧SeqAt.EqAt A.in1 s v0 x b0∧SeqAt.EqAt A.in1 s v1 x b1∧SeqAt.EqAt A.in1 s v2 x b2∧R (.ok (.ret (.int j s.toks))) { s with toks:=s.toks+1 }):=by
 intro prog w A R s h
 obtain⟨hp,e0,e1,e2,h⟩:=h
 obtain⟨n,hd⟩:=hd
 obtain⟨cl,dd,da,sl⟩:=o
 cases hc
 cases hd
 unfold Builtin.«tuple.index»
 simp only [Std.Legacy.Range.forIn_eq_forIn_range']
 refine wpAny_bind (wpAny_of_eq rfl ?_)
 refine wpAny_bind (wpAny_tupleItemsOf hp rfl ?_)
 dsimp only
 refine wpAny_bind (wpAny_pure ?_)
 refine wpAny_bind (wpAny_pure ?_)
 rw [show List.range' 0 (Std.Legacy.Range.size [0:min #[v0,v1,v2].size #[v0,v1,v2].size])=[0,1,2] by simp [Std.Legacy.Range.size,List.range']]
 refine wpAny_bind ?_
 rw [List.forIn_cons]
 refine wpAny_bind (wpAny_bind (e0 prog w _ _ ?_))
 cases b0 with
 | true=>
  obtain rfl:j=0:=by simpa using hj
  rw [if_pos rfl]
  exact wpAny_bind (wpAny_bind (wpAny_mkInt (wpAny_pure (wpAny_pure (wpAny_pure (wpAny_pure h))))))
 | false=>
  rw [if_neg (by decide)]
  refine wpAny_pure ?_
  dsimp only
  rw [List.forIn_cons]
  refine wpAny_bind (wpAny_bind (e1 prog w _ _ ?_))
  cases b1 with
  | true=>
   obtain rfl:j=1:=by simpa using hj
   rw [if_pos rfl]
   exact wpAny_bind (wpAny_bind (wpAny_mkInt (wpAny_pure (wpAny_pure (wpAny_pure (wpAny_pure h))))))
  | false=>
   obtain⟨rfl,rfl⟩:b2=true∧j=2:=by simpa using hj
   rw [if_neg (by decide)]
   refine wpAny_pure ?_
   dsimp only
   rw [List.forIn_cons]
   refine wpAny_bind (wpAny_bind (e2 prog w _ _ ?_))
   rw [if_pos rfl]
   exact wpAny_bind (wpAny_bind (wpAny_mkInt (wpAny_pure (wpAny_pure (wpAny_pure (wpAny_pure h))))))
def rTIx (K:W.Frag):V->List V->Hp->VK->Prop:=fun x vs H Q=>∃(p:Addr) (a b c z:Str) (j:Nat),x=.ref p∧vs=[.str z]∧SqT K H p [.str a,.str b,.str c]∧((a=z∧j=0)∨(a≠z∧b=z∧j=1)∨(a≠z∧b≠z∧c=z∧j=2))∧Q (.int j) H
theorem mt_tindex:MtR X "tuple.index" (rTIx X.K):=by
 intro pins s σ H x xs v us Q I rx rs h
 obtain⟨p,a,b,c,z,j,rfl,rfl,hp,hj,q⟩:=h
 cases rx
 obtain⟨u,rfl,ru⟩:=Vals.one rs
 obtain⟨its,r,pl,hz⟩:=I.tuple hp
 cases r with
 | cons r0 r=>
  cases r with
  | cons r1 r=>
   cases r with
   | cons r2 r=>
    cases r
    have pl':s.heap.IsTuple p _:=pl
    obtain⟨o,e1,e2,n,e3⟩:=pl'
    refine call_meets F.slot_tuple_index ⟨o,e1,e2⟩ F.entry_tuple_index (F.args_tuple_index_2 _ _) (meets_tindex3 p _ _ _ u o e2 ⟨n,e3⟩ (decide (a=z)) (decide (b=z)) (decide (c=z)) j (by simpa using hj)) ⟨e1,?_,?_,?_,.int j,H,I.tok _,⟨_,rfl⟩,q⟩
    ·have:=eqAt_V (A:=X.A.in1) (s:=s) r0 ru rfl rfl;rw [show decide (a=z)=(a == z) from (Bool.beq_eq_decide_eq a z).symm];exact this
    ·have:=eqAt_V (A:=X.A.in1) (s:=s) r1 ru rfl rfl;rw [show decide (b=z)=(b == z) from (Bool.beq_eq_decide_eq b z).symm];exact this
    ·have:=eqAt_V (A:=X.A.in1) (s:=s) r2 ru rfl rfl;rw [show decide (c=z)=(c == z) from (Bool.beq_eq_decide_eq c z).symm];exact this
def isNonV:V->Bool
 | .non=>true
 | _=>false
def isNonU:Value->Bool
 | .none=>true
 | _=>false
theorem any_non:∀{xs:List V} {its:List Value},Vals xs its->(∀x∈xs,x=.non∨∃a,x=.ref a)->its.any isNonU=xs.any isNonV
 | _,_,.nil,_=>rfl
 | _,_,.cons (a:=x) (b:=u) r rr,h=>by
  rw [List.any_cons,List.any_cons,any_non rr fun y hy=>h y (.tail _ hy)]
  congr 1
  rcases h x (.head _) with rfl | ⟨a,rfl⟩
  ·have:u=Value.none:=r
   rw [this];rfl
  ·have:u=Value.ref a:=r
   rw [this];rfl
def rNoneIn (K:W.Frag):R2:=fun x y H Q=>∃p xs,x=.non∧y=.ref p∧SqL K H p xs∧(∀z∈xs,z=.non∨∃a ys,z=.ref a∧SqT K H a ys)∧Q (.bl (xs.any isNonV)) H
theorem op_noneIn (hu:X.A.units+64 < cLine):OpR X (compareOp .In) (rNoneIn X.K):=by
 intro pins s σ H x y v u Q I rx ry h
 obtain⟨p,xs,rfl,rfl,hq,hx,q⟩:=h
 cases ry
 have rx':v=Value.none:=rx
 subst rx'
 obtain⟨its,r,pl,hz⟩:=I.list hq
 refine SeqAt.in_listAt isNonU pl.isList (fun w hw=>?_) ⟨.bl _,H,I,rfl,?_⟩
 ·obtain⟨i,hi,rfl⟩:=List.mem_iff_getElem.mp (show w∈its by simpa using hw)
  have hl:=r.length
  obtain⟨u,hu',ru⟩:=r.get (List.getElem?_eq_getElem (show i < xs.length by omega))
  rw [List.getElem?_eq_getElem hi] at hu'
  cases Option.some.inj hu'
  rcases hx _ (List.getElem_mem (show i < xs.length by omega)) with z | ⟨a,ys,z,ht⟩
  ·rw [z] at ru
   have e:its[i]=Value.none:=ru
   rw [e]
   exact eqAt_V (y:=.non) (x:=.non) rfl rfl rfl rfl
  ·rw [z] at ru
   have e:its[i]=Value.ref a:=ru
   rw [e]
   obtain⟨its',r',pl',hz'⟩:=I.tuple ht
   exact SeqAt.EqAt.tuple_none (show s.heap.IsTuple a its'.toArray from pl') (by show X.A.units+1 < cLine;omega)
 ·rw [show its.toArray.any isNonU=its.any isNonU by simp,any_non r fun z hz=>by
   rcases hx z hz with z | ⟨a,_,z,_⟩
   ·exact .inl z
   ·exact .inr ⟨a,z⟩]
  exact q
def rCatS:R2:=fun x y H Q=>∃i j,x=.str i∧y=.str j∧i.length+j.length<=sizeLine∧Q (.str (i++j)) H
theorem op_catS:OpR X (binaryOp .Add) rCatS:=op_add_str
def rInT:R2:=fun x y H Q=>∃i j,x=.str i∧y=.str j∧Q (.bl (!(Builtin.Str.occurrences j i 0 j.length 1).isEmpty)) H
theorem op_inT:OpR X (compareOp .In) rInT:=op_in_str
theorem bt_str:bootBuiltins "str" = some (.type "str"):=by decide +kernel
end
section
variable {K:W.Frag} {σ:St} {H:Hp} {Q:VK} {x y:V} {vs:List V} {lo hi:Option Int} {i:Nat} {y' z':Str} {tl:TE} {R:It->Hp->Prop}
theorem a_starts:rStarts x vs H Q=∃a b,x=.str a∧vs=[.str b]∧Q (.bl (Txt.startswith a b)) H:=rfl
theorem a_ends:rEnds x vs H Q=∃a b,x=.str a∧vs=[.str b]∧Q (.bl (Txt.endswith a b)) H:=rfl
theorem a_split:rSplit x vs H Q=∃a b,x=.str a∧vs=[.str b]∧b.length≠0∧a.length<=100000∧(Txt.split a b).length<=100000∧newS H Q (Txt.split a b):=rfl
theorem a_partition:rPartition x vs H Q=∃a b,x=.str a∧vs=[.str b]∧b.length≠0∧a.length<=100000∧∀p,H p=none->Q (.ref p) (upd H p (.tup [.str (Txt.partition a b).1,.str (Txt.partition a b).2.1,.str (Txt.partition a b).2.2])):=rfl
theorem a_intS:rIntS vs H Q=∃a n,vs=[.str a]∧a.length<=640∧PySem.intText? a=some n∧Q (.int n) H:=rfl
theorem a_join:rJoin K x vs H Q=∃a p xs,x=.str a∧vs=[.ref p]∧SqL K H p (xs.map V.str)∧(xs.map (·.length)).sum+xs.length * a.length<=100000∧Q (.str (Txt.join a xs)) H:=rfl
theorem a_slS:rSlS x lo hi H Q=∃z,x=.str z∧z.length<=100000∧Q (.str (Txt.slice z lo hi)) H:=rfl
theorem a_ipS:ipS x y H Q=∃i j,x=.str i∧y=.str j∧i.length+j.length<=sizeLine∧Q (.str (i++j)) H:=rfl
theorem a_repl:tRepl i y' z' σ H Q=∃a,σ[i]?=some (some (.str a))∧a.length<=100000∧Q (.str (Txt.replace a y' z')) H:=rfl
theorem a_istr:iStr tl σ H R=tl σ H fun x H1=>∃z,x=.str z∧R (Its z) H1:=rfl
theorem a_tix:rTIx K x vs H Q=∃(p:Addr) (a b c z:Str) (j:Nat),x=.ref p∧vs=[.str z]∧SqT K H p [.str a,.str b,.str c]∧((a=z∧j=0)∨(a≠z∧b=z∧j=1)∨(a≠z∧b≠z∧c=z∧j=2))∧Q (.int j) H:=rfl
theorem a_noneIn:rNoneIn K x y H Q=∃p xs,x=.non∧y=.ref p∧SqL K H p xs∧(∀z∈xs,z=.non∨∃a ys,z=.ref a∧SqT K H a ys)∧Q (.bl (xs.any isNonV)) H:=rfl
theorem a_catS:rCatS x y H Q=∃i j,x=.str i∧y=.str j∧i.length+j.length<=sizeLine∧Q (.str (i++j)) H:=rfl
theorem a_inT:rInT x y H Q=∃i j,x=.str i∧y=.str j∧Q (.bl (!(Builtin.Str.occurrences j i 0 j.length 1).isEmpty)) H:=rfl
theorem a_ixS:rIxS x y H Q=∃z i c,x=.str z∧y=.int i∧z.length<=sizeLine∧atI z.cps.toList i=some c∧Q (.str ⟨#[c]⟩) H:=rfl
theorem a_neS {x y:Str}:rNe (.str x) (.str y) H Q=Q (.bl (!decide (x=y))) H:=by
 show (true=true∧Q (.bl (!decide (V.str x=V.str y))) H)=_
 rw [show decide (V.str x=V.str y)=decide (x=y) by rw [dec_str];exact Bool.beq_eq_decide_eq x y]
 simp
theorem a_tyS {T:String} {z:Str}:tyV K T (.str z) H=(T = "str"):=rfl
end
section
variable {X:Cx}
def rFind:V->List V->Hp->VK->Prop:=fun x vs H Q=>∃a b,x=.str a∧vs=[.str b]∧Q (.int (Txt.find a b)) H
theorem mt_find:MtR X "str.find" rFind:=by
 intro pins s σ H x xs v us Q I rx rs h
 obtain⟨a,b,rfl,rfl,q⟩:=h
 obtain⟨t,rfl⟩:=rx
 obtain⟨u,rfl,ru⟩:=Vals.one rs
 obtain⟨t',rfl⟩:=ru
 exact SC.find ⟨.int _,H,I.tok _,⟨_,rfl⟩,q⟩
def rNotInT:R2:=fun x y H Q=>∃i j,x=.str i∧y=.str j∧Q (.bl (!(!(Builtin.Str.occurrences j i 0 j.length 1).isEmpty))) H
theorem op_notInT:OpR X (compareOp .NotIn) rNotInT:=op_notIn_str
def rIxE (K:W.Frag):R2:=fun x y H Q=>∃p xs i v,x=.ref p∧y=.int i∧(SqL K H p xs∨SqT K H p xs)∧atI xs i=some v∧Q v H
theorem ix_either:IxR X (rIxE X.K):=by
 intro value slice pins s σ H x y v u Q I rx ry h hs
 obtain⟨p,xs,i,z,e1,e2,hq,ha,q⟩:=h
 rcases hq with hq | hq
 ·exact ix_list value slice pins s σ H x y v u Q I rx ry ⟨p,xs,i,z,e1,e2,hq,ha,q⟩ hs
 ·exact ix_tup value slice pins s σ H x y v u Q I rx ry ⟨p,xs,i,z,e1,e2,hq,ha,q⟩ hs
def rMinT (K:W.Frag):List V->Hp->VK->Prop:=fun xs H Q=>∃p ns,xs=[.ref p]∧SqT K H p (ns.map V.int)∧ns≠[]∧∀M,M∈ns->(∀a,a∈ns->M<=a)->Q (.int M) H
def rMaxT (K:W.Frag):List V->Hp->VK->Prop:=fun xs H Q=>∃p ns,xs=[.ref p]∧SqT K H p (ns.map V.int)∧ns≠[]∧∀M,M∈ns->(∀a,a∈ns->a<=M)->Q (.int M) H
theorem tup_ints {pins:List (Addr×Obj)} {s:Shared} {σ:St} {H:Hp} {p:Addr} {ns:List Int} (I:Inv X pins σ H s) (hq:SqT X.K H p (ns.map V.int)) (hne:ns≠[]):∃zs:Array (Int×Tok),s.heap.IsTuple p (intItems zs)∧ns=zs.toList.map (·.1)∧0 < zs.size∧p < s.heap.objs.size:=by
 obtain⟨its,r',it,hz⟩:=I.tuple hq
 have hi:=ints_are r'
 obtain⟨zs,e⟩:=hi.allInts.items
 have hns:ns=zs.toList.map (·.1):=by rw [← hi.numsOf,← nums_intItems,← e]
 have ht:s.heap.IsTuple p (intItems zs):=by rw [← e];exact it
 refine⟨zs,ht,hns,?_,?_⟩
 ·have h3:=List.length_pos_iff.mpr hne
  rw [hns,List.length_map,Array.length_toList] at h3;exact h3
 ·obtain⟨_,e,_⟩:=ht;exact Heap.lt_size e
theorem call_minT (hc:X.calm=true):CallR X (.builtin "min") (rMinT X.K):=by
 intro pins s σ H xs us Q I r h
 obtain⟨p,ns,rfl,hq,hne,q⟩:=h
 obtain⟨u,rfl,rx⟩:=vals1 r
 cases rx
 obtain⟨zs,ht,hns,hsz,hlt⟩:=tup_ints I hq hne
 have si:(intItems zs).size=zs.size:=by simp [intItems]
 refine call_min_walk (wpAny_pyIter_tuple ht ⟨_,_,_,_,_,_,_,rfl,Walks.tuple (A:=X.A.in1) (I.ok.hd hc) s.heap.objs.size p (Nat.ne_of_lt hlt) (intItems zs),⟨⟨_,Heap.get?_push_size _ rfl,rfl,rfl⟩,ht.push _⟩,fun y hy=>?_,by rw [si];exact hsz,CmpOf.ints_lt (numAt zs) (fun _ _=>intItems_at),fun v h' tk hP hk=>?_⟩)
 ·show y < (s.heap.push _).objs.size
  rw [Heap.size_push]
  simp only [List.mem_cons,List.not_mem_nil,or_false] at hy
  rcases hy with rfl | rfl
  ·exact Nat.lt_succ_self _
  ·exact Nat.lt_succ_of_lt hlt
 ·have kp:∀y o,s.heap.get? y=some o->h'.get? y=some o:=fun y o e=>hk y o (fun z=>by
   simp only [List.mem_cons,List.not_mem_nil,or_false] at z
   exact absurd (z ▸ Heap.lt_size e) (Nat.lt_irrefl _)) (Heap.get?_push_of_some _ e)
  obtain⟨tv,rfl⟩:=intItems_at hP
  obtain⟨g1,g2⟩:=argBest_lt (numAt zs) ((intItems zs).size - 1)
  refine⟨.int _,H,I.kept kp,⟨tv,rfl⟩,q _ (at_best hns (by omega)) fun x hx=>?_⟩
  obtain⟨i,hi,rfl⟩:=of_best hns hx
  exact g2 i (by omega)
theorem call_maxT (hc:X.calm=true):CallR X (.builtin "max") (rMaxT X.K):=by
 intro pins s σ H xs us Q I r h
 obtain⟨p,ns,rfl,hq,hne,q⟩:=h
 obtain⟨u,rfl,rx⟩:=vals1 r
 cases rx
 obtain⟨zs,ht,hns,hsz,hlt⟩:=tup_ints I hq hne
 have si:(intItems zs).size=zs.size:=by simp [intItems]
 refine call_max_walk (wpAny_pyIter_tuple ht ⟨_,_,_,_,_,_,_,rfl,Walks.tuple (A:=X.A.in1) (I.ok.hd hc) s.heap.objs.size p (Nat.ne_of_lt hlt) (intItems zs),⟨⟨_,Heap.get?_push_size _ rfl,rfl,rfl⟩,ht.push _⟩,fun y hy=>?_,by rw [si];exact hsz,CmpOf.ints_gt (numAt zs) (fun _ _=>intItems_at),fun v h' tk hP hk=>?_⟩)
 ·show y < (s.heap.push _).objs.size
  rw [Heap.size_push]
  simp only [List.mem_cons,List.not_mem_nil,or_false] at hy
  rcases hy with rfl | rfl
  ·exact Nat.lt_succ_self _
  ·exact Nat.lt_succ_of_lt hlt
 ·have kp:∀y o,s.heap.get? y=some o->h'.get? y=some o:=fun y o e=>hk y o (fun z=>by
   simp only [List.mem_cons,List.not_mem_nil,or_false] at z
   exact absurd (z ▸ Heap.lt_size e) (Nat.lt_irrefl _)) (Heap.get?_push_of_some _ e)
  obtain⟨tv,rfl⟩:=intItems_at hP
  obtain⟨g1,g2⟩:=argBest_gt (numAt zs) ((intItems zs).size - 1)
  refine⟨.int _,H,I.kept kp,⟨tv,rfl⟩,q _ (at_best hns (by omega)) fun x hx=>?_⟩
  obtain⟨i,hi,rfl⟩:=of_best hns hx
  exact g2 i (by omega)
end
section
variable {K:W.Frag} {σ:St} {H:Hp} {Q:VK} {x y:V} {vs:List V} {lo hi:Option Int} {g:TG} {tb:TS} {D:Ends} {z:Str}
theorem lp_str (Pv:Nat->St->Hp->Prop) (h0:Pv 0 σ H)
  (hs:∀i c σ H,z.cps.toList[i]?=some c->Pv i σ H->g (.str ⟨#[c]⟩) σ H fun σ2 H2=>tb { D with nx:=Pv (i+1),ct:=Pv (i+1),bk:=D.nx } σ2 H2) (hd:∀σ H,Pv z.cps.size σ H->D.nx σ H):Loop (Its z) g tb D σ H:=by
 refine⟨fun i m σ H=>m=z.cps.size - i∧i<=z.cps.size∧Pv i σ H,⟨_,rfl,Nat.zero_le _,h0⟩,?_⟩
 rintro i m σ H ⟨rfl,hi,p⟩
 by_cases h:i < z.cps.size
 ·refine .inr ⟨h,Pv (i+1),fun σ' H' p'=>⟨z.cps.size - (i+1),by omega,rfl,h,p'⟩,fun x H' y=>?_⟩
  obtain⟨rfl,c,hc,rfl⟩:=y
  exact hs i c σ _ (by simpa using hc) p
 ·have e:i=z.cps.size:=by omega
  subst e
  exact .inl ⟨Nat.le_refl _,hd σ H p⟩
theorem a_find:rFind x vs H Q=∃a b,x=.str a∧vs=[.str b]∧Q (.int (Txt.find a b)) H:=rfl
theorem a_notInT:rNotInT x y H Q=∃i j,x=.str i∧y=.str j∧Q (.bl (!(!(Builtin.Str.occurrences j i 0 j.length 1).isEmpty))) H:=rfl
theorem a_ixE:rIxE K x y H Q=∃p xs i v,x=.ref p∧y=.int i∧(SqL K H p xs∨SqT K H p xs)∧atI xs i=some v∧Q v H:=rfl
theorem a_minT:rMinT K vs H Q=∃p ns,vs=[.ref p]∧SqT K H p (ns.map V.int)∧ns≠[]∧∀M,M∈ns->(∀a,a∈ns->M<=a)->Q (.int M) H:=rfl
theorem a_maxT:rMaxT K vs H Q=∃p ns,vs=[.ref p]∧SqT K H p (ns.map V.int)∧ns≠[]∧∀M,M∈ns->(∀a,a∈ns->a<=M)->Q (.int M) H:=rfl
theorem a_slT:rSlT K x lo hi H Q=∃a xs,x=.ref a∧SqT K H a xs∧¬(HT.sIx xs.length 0 lo=0∧HT.sIx xs.length xs.length hi=xs.length)∧∀p,H p=none->Q (.ref p) (upd H p (.tup (cutV xs lo hi))):=rfl
end
end L2
namespace My
def co (xs:List Int) (k:Nat):Int:=xs.getD k 0
end My
namespace My
def sumN:Nat->(Nat->Int)->Int
 | 0,_=>0
 | n+1,f=>sumN n f+f n
end My
namespace My
def val (n:Int):List Int->Int
 | []=>0
 | c :: r=>c+n * val n r
def hd (xs:List Int):Int:=xs.headD 0
end My
namespace My
end My
namespace My
end My
namespace My
theorem gcd_split {t b s:Int} (hb:b≠0) (hs:s=if b < 0 then -((Nat.gcd t.natAbs b.natAbs:Nat):Int) else ((Nat.gcd t.natAbs b.natAbs:Nat):Int)):
  s≠0∧s.natAbs=Nat.gcd t.natAbs b.natAbs∧t=s * t.fdiv s∧b=s * b.fdiv s∧1<=b.fdiv s∧Nat.gcd (t.fdiv s).natAbs (b.fdiv s).natAbs=1:=by
 have gp:0 < Nat.gcd t.natAbs b.natAbs:=Nat.gcd_pos_of_pos_right _ (by omega)
 have sa:s.natAbs=Nat.gcd t.natAbs b.natAbs:=by
  rw [hs];split
  ·rw [Int.natAbs_neg,Int.natAbs_natCast]
  ·rw [Int.natAbs_natCast]
 have s0:s≠0:=by intro z;rw [z] at sa;simp at sa;omega
 have dt:s∣t:=Int.natAbs_dvd_natAbs.mp (by rw [sa];exact Nat.gcd_dvd_left _ _)
 have db:s∣b:=Int.natAbs_dvd_natAbs.mp (by rw [sa];exact Nat.gcd_dvd_right _ _)
 obtain⟨c,hc⟩:=dt
 obtain⟨d,hd⟩:=db
 have ec:t.fdiv s=c:=by rw [hc];exact Int.mul_fdiv_cancel_left c s0
 have ed:b.fdiv s=d:=by rw [hd];exact Int.mul_fdiv_cancel_left d s0
 rw [ec,ed]
 refine⟨s0,sa,hc,hd,?_,?_⟩
 ·by_cases hn:b < 0
  ·rw [if_pos hn] at hs
   have:s < 0:=by omega
   rcases Int.lt_or_le 0 d with h | h
   ·omega
   ·have:=Int.mul_nonneg_of_nonpos_of_nonpos (Int.le_of_lt this) h
    omega
  ·rw [if_neg hn] at hs
   have:0 < s:=by omega
   rcases Int.lt_or_le 0 d with h | h
   ·omega
   ·have:=Int.mul_nonpos_of_nonneg_of_nonpos (Int.le_of_lt this) h
    omega
 ·have e1:t.natAbs=s.natAbs * c.natAbs:=by rw [← Int.natAbs_mul,← hc]
  have e2:b.natAbs=s.natAbs * d.natAbs:=by rw [← Int.natAbs_mul,← hd]
  have e3:=sa
  rw [e1,e2,Nat.gcd_mul_left] at e3
  have sp:0 < s.natAbs:=by omega
  exact Nat.eq_of_mul_eq_mul_left sp (by omega)
theorem fdiv_le {t s:Int} (s0:s≠0) (h:t=s * t.fdiv s):(t.fdiv s).natAbs<=t.natAbs:=by
 have e:t.natAbs=s.natAbs * (t.fdiv s).natAbs:=by rw [← Int.natAbs_mul,← h]
 rw [e]
 exact Nat.le_mul_of_pos_left _ (by omega)
end My
namespace My
def pm (f g:Nat->Int) (k:Nat):Int:=sumN (k+1) fun j=>f j * g (k - j)
end My
namespace My
end My
namespace My
end My
namespace My
def sh (g:Nat->Int) (j:Nat):Int:=if j=0 then 0 else g (j - 1)
def ev (p:Int) (f:Nat->Int):Nat->Nat->Int
 | 0,_=>0
 | n+1,s=>f s+p * ev p f n (s+1)
theorem ev_lin (p a b:Int) (f g:Nat->Int):∀n s,ev p (fun j=>a * f j - b * g j) n s=a * ev p f n s - b * ev p g n s
 | 0,_=>by simp [ev]
 | n+1,s=>by
  simp only [ev]
  rw [ev_lin p a b f g n (s+1),Int.mul_sub,Int.mul_add,Int.mul_add,← Int.mul_assoc p a,← Int.mul_assoc p b,Int.mul_comm p a,Int.mul_comm p b,Int.mul_assoc,Int.mul_assoc]
  omega
theorem down (p:Int) {K Z:Nat->Int} {e:Nat} (hK:∀j,e+1<=j->K j=0) (hZ:∀j,e<=j->Z j=0):
  ∃Z':Nat->Int,(∀j,e<=j->Z' j=0)∧∀j,p * Z' j - sh Z' j=ev p K (e+1) 0 * Z j - ev p Z (e+1) 0 * K j:=by
 let k0:=ev p K (e+1) 0
 let z0:=ev p Z (e+1) 0
 let F:Nat->Int:=fun j=>k0 * Z j - z0 * K j
 let v:Nat->Int:=fun j=>ev p F (e+1 - j) j
 have hF:∀j,e+1<=j->F j=0:=fun j hj=>by show k0 * Z j - z0 * K j=0;rw [hZ j (by omega),hK j hj];simp
 have hv:∀j,v j=F j+p * v (j+1):=fun j=>by
  show ev p F (e+1 - j) j=F j+p * ev p F (e+1 - (j+1)) (j+1)
  by_cases h:j<=e
  ·rw [show e+1 - j=(e - j)+1 by omega,show e+1 - (j+1)=e - j by omega];rfl
  ·rw [show e+1 - j=0 by omega,show e+1 - (j+1)=0 by omega,hF j (by omega)];simp [ev]
 have h0:v 0=0:=by
  show ev p (fun j=>k0 * Z j - z0 * K j) (e+1) 0=0
  rw [ev_lin]
  show k0 * z0 - z0 * k0=0
  rw [Int.mul_comm];omega
 refine⟨fun j=>- v (j+1),fun j hj=>?_,fun j=>?_⟩
 ·show - ev p F (e+1 - (j+1)) (j+1)=0
  rw [show e+1 - (j+1)=0 by omega];rfl
 ·show p * (- v (j+1)) - sh (fun j=>- v (j+1)) j=F j
  have a:=hv j
  unfold sh
  by_cases h:j=0
  ·subst h
   rw [if_pos rfl]
   rw [h0] at a
   rw [Int.mul_neg];omega
  ·rw [if_neg h]
   show p * (- v (j+1)) - (- v (j - 1+1))=F j
   rw [show j - 1+1=j by omega,Int.mul_neg];omega
section
variable {p:Int} {K L:Nat->Int} {e t M:Nat} (he:1<=e) (hK:∀j,e+1<=j->K j=0) (kt:K e≠0) (hL:∀j,t+1<=j->L j=0) (lt:L t≠0) (hM:∀j,(pm L K j).natAbs<=M) (hp:(ev p K (e+1) 0).natAbs+M+1 < p.natAbs)
include he hK kt hL lt hM hp
end
end My
namespace My
end My
namespace My
end My
namespace My
end My
namespace My
end My
namespace TX
open PySem PySem.Builtin PySem.Builtin.Str PySem.StrLaws
def S (l:List Nat):PySem.Str:=⟨l.toArray⟩
theorem S_list (l:List Nat):(S l).cps.toList=l:=by simp [S]
theorem S_of (x:PySem.Str):S x.cps.toList=x:=by simp [S]
theorem S_inj {a b:List Nat} (h:S a=S b):a=b:=by rw [← S_list a,h,S_list]
theorem S_eq {a b:List Nat}:(S a=S b)↔a=b:=⟨S_inj,fun h=>by rw [h]⟩
theorem S_len (l:List Nat):(S l).length=l.length:=by simp [S,PySem.Str.length]
theorem ext {x y:PySem.Str} (h:x.cps.toList=y.cps.toList):x=y:=by rw [← S_of x,h,S_of]
theorem S_app (a b:List Nat):S a++S b=S (a++b):=ext (by rw [PySem.Str.cps_append,Array.toList_append,S_list,S_list,S_list])
theorem at_S {l w:List Nat} {i:Nat}:At (S l) (S w) (S l).length i↔i+w.length<=l.length∧(l.drop i).take w.length=w:=by
 unfold At
 rw [subAt_eq,S_list,S_list,S_len,S_len]
 simp
theorem sub_S (l:List Nat) (i j:Nat):strSub (S l) i j=S ((l.drop i).take (j - i)):=ext (by rw [strSub_toList,S_list,S_list])
theorem starts_S (l w:List Nat):Txt.startswith (S l) (S w)=w.isPrefixOf l:=by
 unfold Txt.startswith
 rw [subAt_eq,S_list,S_list,S_len,S_len,List.drop_zero,Bool.eq_iff_iff,List.isPrefixOf_iff_prefix,List.prefix_iff_eq_take]
 simp only [Bool.and_eq_true,decide_eq_true_eq,beq_iff_eq]
 constructor
 ·intro h;exact h.2.symm
 ·intro h
  refine⟨?_,h.symm⟩
  have:=congrArg List.length h
  rw [List.length_take] at this
  omega
theorem ends_S (l w:List Nat):Txt.endswith (S l) (S w)=w.isSuffixOf l:=by
 unfold Txt.endswith
 rw [subAt_eq,S_list,S_list,S_len,S_len,Bool.eq_iff_iff,List.isSuffixOf_iff_suffix,List.suffix_iff_eq_drop]
 simp only [Bool.and_eq_true,decide_eq_true_eq,beq_iff_eq]
 constructor
 ·intro h
  rw [List.take_of_length_le (by rw [List.length_drop];omega)] at h
  exact h.2.symm
 ·intro h
  have:=congrArg List.length h
  rw [List.length_drop] at this
  refine⟨by omega,?_⟩
  rw [List.take_of_length_le (by rw [List.length_drop];omega)]
  exact h.symm
def jn (w:List Nat):List (List Nat)->List Nat
 | []=>[]
 | [p]=>p
 | p :: q :: r=>p++w++jn w (q :: r)
theorem jn_S (w:List Nat):∀ps:List (List Nat),PySem.Str.join (S w) (ps.map S)=S (jn w ps)
 | []=>rfl
 | [p]=>rfl
 | p :: q :: r=>by
  show S p++S w++PySem.Str.join (S w) ((q :: r).map S)=_
  rw [jn_S w (q :: r),S_app,S_app];rfl
theorem join_S (w:List Nat) (ps:List (List Nat)):Txt.join (S w) (ps.map S)=S (jn w ps):=by
 show glued (S w) _=_
 rw [glued_eq_join,jn_S]
theorem cut_one {w:List Nat} {c d:Nat} (hd:w[d]?=some c) (hw:∀e,w[e]?=some c->e=d):∀(ps:List (List Nat)) (pre l:List Nat) (cuts:List Nat) (f:Nat),ps≠[]->(∀p∈ps,c∉p)->l=pre++jn w ps->ChainG (S l) (S w) (S l).length pre.length cuts f->(∀k,f<=k->¬At (S l) (S w) (S l).length k)->
  partsFrom (S l) w.length pre.length cuts=ps.map S
 | [],_,_,_,_,h,_,_,_,_=>absurd rfl h
 | [p],pre,l,cuts,f,_,hp,e,hc,hn=>by
  have no:∀k,pre.length<=k->¬At (S l) (S w) (S l).length k:=fun k hk h=>by
   obtain⟨h1,h2⟩:=at_S.mp h
   have h3:l[k+d]?=some c:=by
    have dl:=(List.getElem?_eq_some_iff.mp hd).1
    rw [← h2,List.getElem?_take_of_lt dl,List.getElem?_drop] at hd
    exact hd
   rw [e,show jn w [p]=p from rfl,List.getElem?_append_right (by omega)] at h3
   exact hp p (by simp) (List.mem_of_getElem? h3)
  cases cuts with
  | nil=>
   show [strSub (S l) pre.length (S l).length]=[S p]
   rw [sub_S,S_len,e,show jn w [p]=p from rfl,List.drop_left,List.take_of_length_le (by simp)]
  | cons i r=>
   obtain⟨h1,h2,_⟩:=hc
   exact absurd h2 (no i h1)
 | p :: q :: r,pre,l,cuts,f,_,hp,e,hc,hn=>by
  have dl:=(List.getElem?_eq_some_iff.mp hd).1
  have el:l=(pre++p++w)++jn w (q :: r):=by rw [e];simp [jn]
  have here:At (S l) (S w) (S l).length (pre.length+p.length):=by
   rw [at_S]
   refine⟨by rw [el];simp;omega,?_⟩
   rw [e,show pre++jn w (p :: q :: r)=(pre++p)++(w++jn w (q :: r)) by simp [jn],← List.length_append,List.drop_left,List.take_left]
  cases cuts with
  | nil=>
   have z:f=pre.length:=hc
   exact absurd here (hn _ (by omega))
  | cons i s=>
   obtain⟨h1,h2,h3,h4⟩:=hc
   have hi:i=pre.length+p.length:=by
    rcases Nat.lt_trichotomy i (pre.length+p.length) with z | z | z
    ·exfalso
     obtain⟨h5,h6⟩:=at_S.mp h2
     have h7:l[i+d]?=some c:=by
      have h8:=hd
      rw [← h6,List.getElem?_take_of_lt dl,List.getElem?_drop] at h8
      exact h8
     rw [show l=pre++(p++(w++jn w (q :: r))) by rw [el];simp,List.getElem?_append_right (by omega)] at h7
     by_cases y:i+d - pre.length < p.length
     ·rw [List.getElem?_append_left y] at h7
      exact hp p (by simp) (List.mem_of_getElem? h7)
     ·rw [List.getElem?_append_right (by omega)] at h7
      rw [List.getElem?_append_left (by omega)] at h7
      have:=hw _ h7
      omega
    ·exact z
    ·exact absurd here (h3 _ (by omega) z)
   subst hi
   show strSub (S l) pre.length (pre.length+p.length) :: partsFrom (S l) w.length (pre.length+p.length+w.length) s=_
   have e2:(pre++p++w).length=pre.length+p.length+w.length:=by simp [Nat.add_assoc]
   have:=cut_one hd hw (q :: r) (pre++p++w) l s f (by simp) (fun x hx=>hp x (.tail _ hx)) el (by rw [e2,S_len] at *;exact h4) hn
   rw [e2] at this
   rw [this,sub_S,e,List.drop_left,Nat.add_sub_cancel_left]
   show S ((jn w (p :: q :: r)).take p.length) :: _=S p :: _
   rw [show jn w (p :: q :: r)=p++(w++jn w (q :: r)) by simp [jn],List.take_left]
theorem split_jn {w:List Nat} {c d:Nat} (hd:w[d]?=some c) (hw:∀e,w[e]?=some c->e=d) (sm:∀x∈w,x < 256) {ps:List (List Nat)} (h0:ps≠[]) (hp:∀p∈ps,c∉p):Txt.split (S (jn w ps)) (S w)=ps.map S:=by
 have dl:=(List.getElem?_eq_some_iff.mp hd).1
 obtain⟨f,h1,h2⟩:=occ_tight (S (jn w ps)) (S w) (by rw [S_len];omega)
 have key:=cut_one hd hw ps [] (jn w ps) _ f h0 hp rfl h1 h2
 unfold Txt.split
 have k1:strKind (S w)=1:=by
  unfold Builtin.Str.strKind
  rw [if_pos]
  simpa [S] using sm
 have k2:¬(strKind (S (jn w ps)) < strKind (S w)):=by
  rw [k1];unfold Builtin.Str.strKind;split <;> (try split) <;> omega
 by_cases z:(S (jn w ps)).length < (S w).length
 ·rw [if_pos (by simp [z])]
  rw [S_len,S_len] at z
  match ps,h0,hp,key,z with
  | [p],_,_,_,_=>rfl
  | p :: q :: r,_,_,_,z=>simp [jn] at z;omega
 ·rw [if_neg (by simp [z,k2])]
  cases ho:occurrences (S (jn w ps)) (S w) 0 (S (jn w ps)).length ((S (jn w ps)).length+1) with
  | nil=>
   rw [ho] at key
   rw [if_pos List.isEmpty_nil,← key]
   show [S (jn w ps)]=[strSub (S (jn w ps)) 0 (S (jn w ps)).length]
   rw [sub_S,S_len];simp
  | cons i r=>
   rw [if_neg (by simp),partsBetween_eq,S_len,← ho]
   exact key
end TX
namespace TX
open PySem PySem.Builtin PySem.Builtin.Str PySem.StrLaws
theorem part_yes {a b:List Nat} {c:Nat} (h:c∉a):Txt.partition (S (a++c :: b)) (S [c])=(S a,S [c],S b):=by
 have here:At (S (a++c :: b)) (S [c]) (S (a++c :: b)).length a.length:=by
  rw [at_S];refine⟨by simp,by simp⟩
 unfold Txt.partition
 rcases occ_head (S (a++c :: b)) (S [c]) 1 (Nat.le_refl _) with ⟨_,h2⟩ | ⟨i,r,h1,h2,h3⟩
 ·exact absurd here (h2 _)
 ·have hi:i=a.length:=by
   rcases Nat.lt_trichotomy i a.length with z | z | z
   ·obtain⟨_,h5⟩:=at_S.mp h2
    rw [List.drop_append_of_le_length (by omega)] at h5
    exfalso
    have h6:(a.drop i++c :: b)[0]?=some c:=by
     have:=congrArg (fun l:List Nat=>l[0]?) h5
     simpa using this
    rw [List.getElem?_append_left (by rw [List.length_drop];omega),List.getElem?_drop] at h6
    exact h (List.mem_of_getElem? h6)
   ·exact z
   ·exact absurd here (h3 _ z)
  subst hi
  rw [h1]
  show (strSub _ 0 a.length,S [c],strSub _ (a.length+(S [c]).length) _)=_
  rw [sub_S,sub_S,S_len,S_len]
  simp
  rw [List.take_of_length_le (by omega)]
theorem part_no {l:List Nat} {c:Nat} (h:c∉l):Txt.partition (S l) (S [c])=(S l,PySem.Str.empty,PySem.Str.empty):=by
 unfold Txt.partition
 rcases occ_head (S l) (S [c]) 1 (Nat.le_refl _) with ⟨h1,_⟩ | ⟨i,r,h1,h2,_⟩
 ·rw [h1]
 ·obtain⟨h4,h5⟩:=at_S.mp h2
  exfalso
  have h6:l[i]?=some c:=by
   have:=congrArg (fun l:List Nat=>l[0]?) h5
   simp only [List.length_cons,List.length_nil] at this
   rw [List.getElem?_take_of_lt (by omega),List.getElem?_drop] at this
   simpa using this
  exact h (List.mem_of_getElem? h6)
theorem one_get {c:Nat}:∀e,([c]:List Nat)[e]?=some c->e=0
 | 0,_=>rfl
 | e+1,h=>by simp at h
theorem repl_jn {c:Nat} {z:List Nat} (hc:c < 256) {ps:List (List Nat)} (h0:ps≠[]) (hp:∀p∈ps,c∉p):Txt.replace (S (jn [c] ps)) (S [c]) (S z)=S (jn z ps):=by
 have:=replace_one (S (jn [c] ps)) (S z) c
 rw [show (⟨#[c]⟩:PySem.Str)=S [c] from rfl] at this
 rw [this,split_jn (c:=c) (d:=0) rfl one_get (fun x hx=>by rw [List.mem_singleton.mp hx];exact hc) h0 hp,jn_S]
def sx (n d:Nat):Option Int->Nat
 | none=>d
 | some v=>if v < 0 then (v+(n:Int)).toNat else min v.toNat n
theorem sx_le (n:Nat) (o:Option Int):sx n n o<=n:=by
 cases o with
 | none=>exact Nat.le_refl _
 | some v=>show (if v < 0 then (v+(n:Int)).toNat else min v.toNat n)<=n;split <;> omega
theorem idx_S (l:List Nat) (lo hi:Option Int):strSliceIndices lo hi 1 (S l).length=sliceRange ((sx l.length 0 lo:Nat):Int) ((sx l.length l.length hi:Nat):Int) 1:=by
 unfold strSliceIndices
 rw [S_len]
 simp only [show (1:Int) > 0 by decide,if_true]
 cases lo with
 | none=>cases hi with
  | none=>rfl
  | some v=>simp only [sx];congr 1;split <;> omega
 | some u=>cases hi with
  | none=>simp only [sx];congr 1;split <;> omega
  | some v=>
   simp only [sx]
   congr 1
   ·split <;> omega
   ·split <;> omega
theorem slice_S (l:List Nat) (lo hi:Option Int):Txt.slice (S l) lo hi=S ((l.drop (sx l.length 0 lo)).take (sx l.length l.length hi - sx l.length 0 lo)):=by
 unfold Txt.slice
 rw [idx_S,sliceRange_one,pick_run,S_list]
 have hb:=sx_le l.length hi
 generalize sx l.length 0 lo=a at *
 generalize sx l.length l.length hi=b at *
 split
 ·rename_i h
  simp only [BEq.rfl,Bool.true_and,beq_iff_eq,List.length_map,List.length_range,S_len] at h
  by_cases y:l.length=0
  ·rw [List.eq_nil_of_length_eq_zero y];simp
  ·have a0:a=0:=by omega
   rw [a0,List.drop_zero,List.take_of_length_le (by omega)]
 ·rfl
def dg (m:Nat):List Nat:=(Nat.toDigits 10 m).map Char.toNat
def shI (n:Int):List Nat:=if n < 0 then 45 :: dg n.natAbs else dg n.natAbs
theorem dg_all (m:Nat):NumText.AllDigits (dg m):=by
 intro c hc
 obtain⟨ch,hch,e⟩:=List.mem_map.mp hc
 rw [← e]
 exact PyProof.Rows.digit_range (Nat.isDigit_of_mem_toDigits (by decide) (by decide) hch)
theorem dg_ne (m:Nat):dg m≠[]:=by
 intro e
 have h:=PySem.toDigits_len_ge 10 m
 rw [List.map_eq_nil_iff.mp e] at h
 exact absurd h (by decide)
theorem toS (n:Int):PySem.Str.ofString (toString n)=S (shI n):=by
 refine ext ?_
 rw [PyProof.Rows.signs_ofString,S_list]
 unfold shI dg
 cases n with
 | ofNat m=>
  rw [if_neg (by simp)]
  show (Nat.repr m).toList.map Char.toNat=_
  rw [Nat.toList_repr];rfl
 | negSucc m=>
  rw [if_pos (by omega)]
  show ("-" ++ Nat.repr (m+1)).toList.map Char.toNat=_
  rw [String.toList_append,Nat.toList_repr,List.map_append];rfl
theorem sh_ne (n:Int):shI n≠[]:=by unfold shI;split;simp;exact dg_ne _
theorem sh_mem {n:Int} {c:Nat} (h:c∈shI n):c=45∨(48<=c∧c<=57):=by
 unfold shI at h
 split at h
 ·rcases List.mem_cons.mp h with z | z
  ·exact .inl z
  ·exact .inr (dg_all _ c z)
 ·exact .inr (dg_all _ c h)
theorem dg_val (m:Nat):NumText.digitsVal (dg m)=m:=PySem.W.KIN.val_back m
theorem dg_len {m k:Nat} (h:m < 10 ^ k) (hk:0 < k):(dg m).length<=k:=by
 unfold dg
 rw [List.length_map]
 exact (Nat.length_toDigits_le_iff (by decide) hk).mpr h
theorem int_S {n:Int} (h:(shI n).length<=640):PySem.intText? (S (shI n))=some n:=by
 unfold shI at *
 split at h
 ·rename_i z
  rw [if_pos z] at *
  have:=intText_neg (x:=S (45 :: dg n.natAbs)) (cs:=dg n.natAbs) (S_list _) (dg_all _) (dg_ne _) (by rw [S_len];omega)
  rw [this,dg_val]
  congr 1;omega
 ·rename_i z
  rw [if_neg z] at *
  have:=intText_digits (x:=S (dg n.natAbs)) (by rw [S_list];exact dg_all _) (by rw [S_list];exact dg_ne _) (by rw [S_len];omega)
  rw [this,S_list,dg_val]
  congr 1;omega
end TX
namespace My
open PySem PySem.Spec PyProof.Rows L2
seal L2.PE L2.PS L2.PSs L2.PA
local macro_rules | `(tactic| k_units)=>`(tactic| ((try dsimp only [a_find,a_notInT,a_ixE,a_minT,a_maxT,a_slT,a_starts,a_ends,a_split,a_partition,a_intS,a_join,a_slS,a_ipS,a_repl,a_istr,a_tix,a_noneIn,a_catS,a_inT,a_ixS,a_neS,a_tyS,a_insert,a_popAt,a_fst2,a_fld,a_sfld,a_meth,a_make,a_maxD,a_inS,a_ipC,a_izip,a_tComp2,a_izip3,a_tComp3,a_make0,a_eqS,a_izipB,a_tryAs,a_drop_nx,a_raise,a_try,a_fst,a_compIf,a_seq,a_next,a_brk,a_cnt,a_drop,a_ret,a_retN,a_if,a_asg,a_gname,a_gsub,a_gtup,a_gnil,a_gcons,a_aug,a_augS,a_ipI,a_var,a_c,a_op,a_un,a_rI,a_rI0,a_rU,a_eqI,a_neI,a_eqB,a_neB,a_tB,a_test,a_and,a_or,a_not,a_andV,a_orV,a_notV,a_ifE,a_chain,a_nil,a_cons,a_lst,a_tup,a_call,a_cb,a_bm0,a_bm,a_sl,a_nopart,a_part,a_tyI,a_for,a_comp,a_ilist,a_itup,a_irng1,a_irng2,a_irng3,a_cxK,a_irev,a_ienum,a_cat,a_rep,a_pop,a_clear,a_rslL,a_ixL,a_ixT,a_setL,a_app]);(try simp only [a_find,a_notInT,a_ixE,a_minT,a_maxT,a_slT,a_starts,a_ends,a_split,a_partition,a_intS,a_join,a_slS,a_ipS,a_repl,a_istr,a_tix,a_noneIn,a_catS,a_inT,a_ixS,a_neS,a_tyS,a_insert,a_popAt,a_fst2,a_fld,a_sfld,a_meth,a_make,a_maxD,a_inS,a_ipC,a_izip,a_tComp2,a_izip3,a_tComp3,a_make0,a_eqS,V.str.injEq,a_izipB,a_tryAs,a_drop_nx,a_raise,a_try,a_fst,a_compIf,a_seq,a_next,a_brk,a_cnt,a_drop,a_ret,a_retN,a_if,a_asg,a_gname,a_gsub,a_gtup,a_gnil,a_gcons,a_aug,a_augS,a_ipI,a_var,a_c,a_op,a_un,a_rI,a_rI0,a_rU,a_eqI,a_neI,a_eqB,a_neB,a_tB,a_test,a_and,a_or,a_not,a_andV,a_orV,a_notV,a_ifE,a_chain,a_nil,a_cons,a_lst,a_tup,a_call,a_cb,a_bm0,a_bm,a_sl,a_nopart,a_part,a_tyI,a_for,a_comp,a_ilist,a_itup,a_irng1,a_irng2,a_irng3,a_cxK,and_assoc,a_irev,a_ienum,a_cat,a_rep,a_pop,a_clear,a_rslL,a_ixL,a_ixT,a_setL,a_app,List.getElem?_cons_zero,List.getElem?_cons_succ,List.set_cons_zero,List.set_cons_succ,Option.some.injEq,V.int.injEq,V.bl.injEq,V.ref.injEq,V.ty.injEq,exists_eq_left',exists_eq_left,exists_and_left,decide_eq_true_eq,List.cons_append,List.nil_append,List.append_nil,List.cons.injEq,and_true,true_and,Bool.not_eq_true',decide_eq_false_iff_not,ite_true,ite_false,Bool.false_eq_true,if_true,if_false,List.length_cons,List.length_nil,L2.start,List.map_cons,List.map_nil,List.replicate_succ,List.replicate_zero])))
local macro_rules | `(tactic| k_typeOf)=>`(tactic| ((try dsimp only [a_find,a_notInT,a_ixE,a_minT,a_maxT,a_slT,a_starts,a_ends,a_split,a_partition,a_intS,a_join,a_slS,a_ipS,a_repl,a_istr,a_tix,a_noneIn,a_catS,a_inT,a_ixS,a_neS,a_tyS,a_insert,a_popAt,a_fst2,a_fld,a_sfld,a_meth,a_make,a_maxD,a_inS,a_ipC,a_izip,a_tComp2,a_izip3,a_tComp3,a_make0,a_eqS,a_izipB,a_tryAs,a_drop_nx,a_raise,a_try,a_fst,a_compIf,a_next,a_brk,a_cnt,a_drop,a_ret,a_retN,a_if,a_asg,a_gname,a_gsub,a_gtup,a_gnil,a_gcons,a_aug,a_augS,a_ipI,a_var,a_c,a_op,a_un,a_rI,a_rI0,a_rU,a_eqI,a_neI,a_eqB,a_neB,a_tB,a_test,a_and,a_or,a_not,a_andV,a_orV,a_notV,a_ifE,a_chain,a_nil,a_cons,a_lst,a_tup,a_call,a_cb,a_bm0,a_bm,a_sl,a_nopart,a_part,a_tyI,a_for,a_comp,a_ilist,a_itup,a_irng1,a_irng2,a_irng3,a_cxK,a_irev,a_ienum,a_cat,a_rep,a_pop,a_clear,a_rslL,a_ixL,a_ixT,a_setL,a_app]);(try simp only [a_find,a_notInT,a_ixE,a_minT,a_maxT,a_slT,a_starts,a_ends,a_split,a_partition,a_intS,a_join,a_slS,a_ipS,a_repl,a_istr,a_tix,a_noneIn,a_catS,a_inT,a_ixS,a_neS,a_tyS,a_insert,a_popAt,a_fst2,a_fld,a_sfld,a_meth,a_make,a_maxD,a_inS,a_ipC,a_izip,a_tComp2,a_izip3,a_tComp3,a_make0,a_eqS,V.str.injEq,a_izipB,a_tryAs,a_drop_nx,a_raise,a_try,a_fst,a_compIf,a_next,a_brk,a_cnt,a_drop,a_ret,a_retN,a_if,a_asg,a_gname,a_gsub,a_gtup,a_gnil,a_gcons,a_aug,a_augS,a_ipI,a_var,a_c,a_op,a_un,a_rI,a_rI0,a_rU,a_eqI,a_neI,a_eqB,a_neB,a_tB,a_test,a_and,a_or,a_not,a_andV,a_orV,a_notV,a_ifE,a_chain,a_nil,a_cons,a_lst,a_tup,a_call,a_cb,a_bm0,a_bm,a_sl,a_nopart,a_part,a_tyI,a_for,a_comp,a_ilist,a_itup,a_irng1,a_irng2,a_irng3,a_cxK,and_assoc,a_irev,a_ienum,a_cat,a_rep,a_pop,a_clear,a_rslL,a_ixL,a_ixT,a_setL,a_app,List.getElem?_cons_zero,List.getElem?_cons_succ,List.set_cons_zero,List.set_cons_succ,Option.some.injEq,V.int.injEq,V.bl.injEq,V.ref.injEq,V.ty.injEq,exists_eq_left',exists_eq_left,exists_and_left,decide_eq_true_eq,List.cons_append,List.nil_append,List.append_nil,List.cons.injEq,and_true,true_and,Bool.not_eq_true',decide_eq_false_iff_not,ite_true,ite_false,Bool.false_eq_true,if_true,if_false,List.length_cons,List.length_nil,L2.start,List.map_cons,List.map_nil,List.replicate_succ,List.replicate_zero])))
local macro_rules | `(tactic| w_on)=>`(tactic| exact⟨rfl,rfl,rfl,by decide +kernel,rfl,by decide +kernel,by decide +kernel⟩)
theorem sc_divisor:FnScope ["one","other","big","small","pair","rest"] ["one","other"] (defScope s_divisor):=by w_on
theorem sc_ratio:FnScope ["top","bottom","shared"] ["top","bottom"] (defScope s_ratio):=by w_on
theorem sc_low_forms:FnScope ["upper","lower"] ["upper","lower"] (defScope s_low_forms):=by w_on
theorem sc_within:FnScope ["form","least"] ["form","least"] (defScope s_within):=by w_on
theorem sc_check_choose:FnScope ["upper","lower","low"] ["upper","lower"] (defScope s_check_choose):=by w_on
theorem sc_check_base:FnScope ["fraction"] ["fraction"] (defScope s_check_base):=by w_on
theorem sc_piece_of:FnScope ["part"] ["part"] (defScope s_piece_of):=by w_on
theorem sc_show_ratio:FnScope ["fraction"] ["fraction"] (defScope s_show_ratio):=by w_on
theorem sc_show_counted:FnScope ["number","letter"] ["number","letter"] (defScope s_show_counted):=by w_on
theorem sc_show_form:FnScope ["form","answer","number","letter","sign"] ["form"] (defScope s_show_form):=by w_on
theorem sc_read_whole:FnScope ["text","figures","number"] ["text"] (defScope s_read_whole):=by w_on
theorem sc_read_ratio:FnScope ["text","halves","top","bottom","fraction"] ["text"] (defScope s_read_ratio):=by w_on
theorem sc_read_counted:FnScope ["text","letter"] ["text","letter"] (defScope s_read_counted):=by w_on
theorem sc_read_form:FnScope ["text","numbers","piece","letter","number","form"] ["text"] (defScope s_read_form):=by w_on
theorem sc_read_choose:FnScope ["text","forms"] ["text"] (defScope s_read_choose):=by w_on
theorem sc_read_part:FnScope ["text","part"] ["text"] (defScope s_read_part):=by w_on
theorem sc_read_term:FnScope ["text","parts"] ["text"] (defScope s_read_term):=by w_on
theorem sc__law_cell_at:FnScope ["_law_script","_law_k"] ["_law_script","_law_k"] (defScope s__law_cell_at):=by w_on
theorem sc__law_number:FnScope ["_law_cell","_law_most"] ["_law_cell","_law_most"] (defScope s__law_number):=by w_on
theorem sc__law_divisor:FnScope ["_law_one","_law_other","_law_rest"] ["_law_one","_law_other"] (defScope s__law_divisor):=by w_on
theorem sc__law_mixed:FnScope ["_law_cell","_law_k","_law_number_here","_law_time"] ["_law_cell","_law_k"] (defScope s__law_mixed):=by w_on
theorem sc__law_forms:FnScope ["_law_one","_law_other","_law_most","_law_high","_law_low"] ["_law_one","_law_other","_law_most"] (defScope s__law_forms):=by w_on
theorem sc__law_ratio:FnScope ["_law_one","_law_other","_law_top","_law_number_here","_law_bottom","_law_by"] ["_law_one","_law_other"] (defScope s__law_ratio):=by w_on
theorem sc__law_part:FnScope ["_law_cells","_law_most","_law_way"] ["_law_cells","_law_most"] (defScope s__law_part):=by w_on
theorem sc__law_parts:FnScope ["_law_script","_law_mosts","_law_found","_law_k","_law_part_here"] ["_law_script","_law_mosts"] (defScope s__law_parts):=by w_on
theorem sc__law_form_text:FnScope ["_law_form","_law_words","_law_k","_law_word"] ["_law_form"] (defScope s__law_form_text):=by w_on
theorem sc__law_ratio_text:FnScope ["_law_fraction"] ["_law_fraction"] (defScope s__law_ratio_text):=by w_on
theorem sc__law_part_text:FnScope ["_law_part_here"] ["_law_part_here"] (defScope s__law_part_text):=by w_on
theorem sc__law_is:FnScope ["_law_caught","_law_at","_law_told"] ["_law_caught","_law_at"] (defScope s__law_is):=by w_on
theorem sc__law_changed:FnScope ["_law_line","_law_script","_law_signs","_law_k","_law_number_here","_law_at","_law_sign","_law_two"] ["_law_line","_law_script"] (defScope s__law_changed):=by w_on
theorem sc__law_odd:FnScope ["_law_cell","_law_some"] ["_law_cell"] (defScope s__law_odd):=by w_on
theorem sc__law_whole_of:FnScope ["_law_line","_law_figures","_law_sign"] ["_law_line"] (defScope s__law_whole_of):=by w_on
theorem sc__law_form_of:FnScope ["_law_line","_law_numbers","_law_word","_law_sign","_law_k","_law_body","_law_number_here"] ["_law_line"] (defScope s__law_form_of):=by w_on
theorem sc__law_ratio_of:FnScope ["_law_line","_law_numbers"] ["_law_line"] (defScope s__law_ratio_of):=by w_on
theorem sc__law_is_choose:FnScope ["_law_high","_law_low"] ["_law_high","_law_low"] (defScope s__law_is_choose):=by w_on
theorem sc__law_part_of:FnScope ["_law_line","_law_words","_law_high","_law_low","_law_form","_law_fraction"] ["_law_line"] (defScope s__law_part_of):=by w_on
theorem sc__law_judged:FnScope ["_law_line","_law_parts_here","_law_good","_law_caught","_law_found","e"] ["_law_line"] (defScope s__law_judged):=by w_on
theorem sc_law:FnScope ["_law_script","_law_line","_law_changed_here","_law_odd_here","_law_one"] ["_law_script"] (defScope s_law):=by w_on
theorem sc_Choose___init__:FnScope ["self","upper","lower"] ["self","upper","lower"] (defScope s_Choose___init__):=by w_on
theorem sc_Weight___init__:FnScope ["self","form"] ["self","form"] (defScope s_Weight___init__):=by w_on
theorem sc_Power___init__:FnScope ["self","fraction"] ["self","fraction"] (defScope s_Power___init__):=by w_on
theorem sc_Growth___init__:FnScope ["self","fraction"] ["self","fraction"] (defScope s_Growth___init__):=by w_on
theorem sc_Term___init__:FnScope ["self","parts"] ["self","parts"] (defScope s_Term___init__):=by w_on
theorem sc_Term_told:FnScope ["self"] ["self"] (defScope s_Term_told):=by w_on
set_option genInjectivity false in
set_option genSizeOf false in
structure Tx (K:W.Frag) (mg:Str->Option Value) where
 a_divisor:Addr
 fd_divisor:FuncData
 F_divisor:Fun K "divisor" "divisor" s_divisor a_divisor fd_divisor
 m_divisor:mg "divisor" = some (.ref a_divisor)
 b_divisor:Binds K fd_divisor ["one","other"] []
 a_ratio:Addr
 fd_ratio:FuncData
 F_ratio:Fun K "ratio" "ratio" s_ratio a_ratio fd_ratio
 m_ratio:mg "ratio" = some (.ref a_ratio)
 b_ratio:Binds K fd_ratio ["top","bottom"] []
 a_low_forms:Addr
 fd_low_forms:FuncData
 F_low_forms:Fun K "low_forms" "low_forms" s_low_forms a_low_forms fd_low_forms
 m_low_forms:mg "low_forms" = some (.ref a_low_forms)
 b_low_forms:Binds K fd_low_forms ["upper","lower"] []
 a_within:Addr
 fd_within:FuncData
 F_within:Fun K "within" "within" s_within a_within fd_within
 m_within:mg "within" = some (.ref a_within)
 b_within:Binds K fd_within ["form","least"] []
 a_check_choose:Addr
 fd_check_choose:FuncData
 F_check_choose:Fun K "check_choose" "check_choose" s_check_choose a_check_choose fd_check_choose
 m_check_choose:mg "check_choose" = some (.ref a_check_choose)
 b_check_choose:Binds K fd_check_choose ["upper","lower"] []
 a_check_base:Addr
 fd_check_base:FuncData
 F_check_base:Fun K "check_base" "check_base" s_check_base a_check_base fd_check_base
 m_check_base:mg "check_base" = some (.ref a_check_base)
 b_check_base:Binds K fd_check_base ["fraction"] []
 a_piece_of:Addr
 fd_piece_of:FuncData
 F_piece_of:Fun K "piece_of" "piece_of" s_piece_of a_piece_of fd_piece_of
 m_piece_of:mg "piece_of" = some (.ref a_piece_of)
 b_piece_of:Binds K fd_piece_of ["part"] []
 a_show_ratio:Addr
 fd_show_ratio:FuncData
 F_show_ratio:Fun K "show_ratio" "show_ratio" s_show_ratio a_show_ratio fd_show_ratio
 m_show_ratio:mg "show_ratio" = some (.ref a_show_ratio)
 b_show_ratio:Binds K fd_show_ratio ["fraction"] []
 a_show_counted:Addr
 fd_show_counted:FuncData
 F_show_counted:Fun K "show_counted" "show_counted" s_show_counted a_show_counted fd_show_counted
 m_show_counted:mg "show_counted" = some (.ref a_show_counted)
 b_show_counted:Binds K fd_show_counted ["number","letter"] []
 a_show_form:Addr
 fd_show_form:FuncData
 F_show_form:Fun K "show_form" "show_form" s_show_form a_show_form fd_show_form
 m_show_form:mg "show_form" = some (.ref a_show_form)
 b_show_form:Binds K fd_show_form ["form"] []
 a_read_whole:Addr
 fd_read_whole:FuncData
 F_read_whole:Fun K "read_whole" "read_whole" s_read_whole a_read_whole fd_read_whole
 m_read_whole:mg "read_whole" = some (.ref a_read_whole)
 b_read_whole:Binds K fd_read_whole ["text"] []
 a_read_ratio:Addr
 fd_read_ratio:FuncData
 F_read_ratio:Fun K "read_ratio" "read_ratio" s_read_ratio a_read_ratio fd_read_ratio
 m_read_ratio:mg "read_ratio" = some (.ref a_read_ratio)
 b_read_ratio:Binds K fd_read_ratio ["text"] []
 a_read_counted:Addr
 fd_read_counted:FuncData
 F_read_counted:Fun K "read_counted" "read_counted" s_read_counted a_read_counted fd_read_counted
 m_read_counted:mg "read_counted" = some (.ref a_read_counted)
 b_read_counted:Binds K fd_read_counted ["text","letter"] []
 a_read_form:Addr
 fd_read_form:FuncData
 F_read_form:Fun K "read_form" "read_form" s_read_form a_read_form fd_read_form
 m_read_form:mg "read_form" = some (.ref a_read_form)
 b_read_form:Binds K fd_read_form ["text"] []
 a_read_choose:Addr
 fd_read_choose:FuncData
 F_read_choose:Fun K "read_choose" "read_choose" s_read_choose a_read_choose fd_read_choose
 m_read_choose:mg "read_choose" = some (.ref a_read_choose)
 b_read_choose:Binds K fd_read_choose ["text"] []
 a_read_part:Addr
 fd_read_part:FuncData
 F_read_part:Fun K "read_part" "read_part" s_read_part a_read_part fd_read_part
 m_read_part:mg "read_part" = some (.ref a_read_part)
 b_read_part:Binds K fd_read_part ["text"] []
 a_read_term:Addr
 fd_read_term:FuncData
 F_read_term:Fun K "read_term" "read_term" s_read_term a_read_term fd_read_term
 m_read_term:mg "read_term" = some (.ref a_read_term)
 b_read_term:Binds K fd_read_term ["text"] []
 a__law_cell_at:Addr
 fd__law_cell_at:FuncData
 F__law_cell_at:Fun K "_law_cell_at" "_law_cell_at" s__law_cell_at a__law_cell_at fd__law_cell_at
 m__law_cell_at:mg "_law_cell_at" = some (.ref a__law_cell_at)
 b__law_cell_at:Binds K fd__law_cell_at ["_law_script","_law_k"] []
 a__law_number:Addr
 fd__law_number:FuncData
 F__law_number:Fun K "_law_number" "_law_number" s__law_number a__law_number fd__law_number
 m__law_number:mg "_law_number" = some (.ref a__law_number)
 b__law_number:Binds K fd__law_number ["_law_cell","_law_most"] []
 a__law_divisor:Addr
 fd__law_divisor:FuncData
 F__law_divisor:Fun K "_law_divisor" "_law_divisor" s__law_divisor a__law_divisor fd__law_divisor
 m__law_divisor:mg "_law_divisor" = some (.ref a__law_divisor)
 b__law_divisor:Binds K fd__law_divisor ["_law_one","_law_other"] []
 a__law_mixed:Addr
 fd__law_mixed:FuncData
 F__law_mixed:Fun K "_law_mixed" "_law_mixed" s__law_mixed a__law_mixed fd__law_mixed
 m__law_mixed:mg "_law_mixed" = some (.ref a__law_mixed)
 b__law_mixed:Binds K fd__law_mixed ["_law_cell","_law_k"] []
 a__law_forms:Addr
 fd__law_forms:FuncData
 F__law_forms:Fun K "_law_forms" "_law_forms" s__law_forms a__law_forms fd__law_forms
 m__law_forms:mg "_law_forms" = some (.ref a__law_forms)
 b__law_forms:Binds K fd__law_forms ["_law_one","_law_other","_law_most"] []
 a__law_ratio:Addr
 fd__law_ratio:FuncData
 F__law_ratio:Fun K "_law_ratio" "_law_ratio" s__law_ratio a__law_ratio fd__law_ratio
 m__law_ratio:mg "_law_ratio" = some (.ref a__law_ratio)
 b__law_ratio:Binds K fd__law_ratio ["_law_one","_law_other"] []
 a__law_part:Addr
 fd__law_part:FuncData
 F__law_part:Fun K "_law_part" "_law_part" s__law_part a__law_part fd__law_part
 m__law_part:mg "_law_part" = some (.ref a__law_part)
 b__law_part:Binds K fd__law_part ["_law_cells","_law_most"] []
 a__law_parts:Addr
 fd__law_parts:FuncData
 F__law_parts:Fun K "_law_parts" "_law_parts" s__law_parts a__law_parts fd__law_parts
 m__law_parts:mg "_law_parts" = some (.ref a__law_parts)
 b__law_parts:Binds K fd__law_parts ["_law_script","_law_mosts"] []
 a__law_form_text:Addr
 fd__law_form_text:FuncData
 F__law_form_text:Fun K "_law_form_text" "_law_form_text" s__law_form_text a__law_form_text fd__law_form_text
 m__law_form_text:mg "_law_form_text" = some (.ref a__law_form_text)
 b__law_form_text:Binds K fd__law_form_text ["_law_form"] []
 a__law_ratio_text:Addr
 fd__law_ratio_text:FuncData
 F__law_ratio_text:Fun K "_law_ratio_text" "_law_ratio_text" s__law_ratio_text a__law_ratio_text fd__law_ratio_text
 m__law_ratio_text:mg "_law_ratio_text" = some (.ref a__law_ratio_text)
 b__law_ratio_text:Binds K fd__law_ratio_text ["_law_fraction"] []
 a__law_part_text:Addr
 fd__law_part_text:FuncData
 F__law_part_text:Fun K "_law_part_text" "_law_part_text" s__law_part_text a__law_part_text fd__law_part_text
 m__law_part_text:mg "_law_part_text" = some (.ref a__law_part_text)
 b__law_part_text:Binds K fd__law_part_text ["_law_part_here"] []
 a__law_is:Addr
 fd__law_is:FuncData
 F__law_is:Fun K "_law_is" "_law_is" s__law_is a__law_is fd__law_is
 m__law_is:mg "_law_is" = some (.ref a__law_is)
 b__law_is:Binds K fd__law_is ["_law_caught","_law_at"] []
 a__law_changed:Addr
 fd__law_changed:FuncData
 F__law_changed:Fun K "_law_changed" "_law_changed" s__law_changed a__law_changed fd__law_changed
 m__law_changed:mg "_law_changed" = some (.ref a__law_changed)
 b__law_changed:Binds K fd__law_changed ["_law_line","_law_script"] []
 a__law_odd:Addr
 fd__law_odd:FuncData
 F__law_odd:Fun K "_law_odd" "_law_odd" s__law_odd a__law_odd fd__law_odd
 m__law_odd:mg "_law_odd" = some (.ref a__law_odd)
 b__law_odd:Binds K fd__law_odd ["_law_cell"] []
 a__law_whole_of:Addr
 fd__law_whole_of:FuncData
 F__law_whole_of:Fun K "_law_whole_of" "_law_whole_of" s__law_whole_of a__law_whole_of fd__law_whole_of
 m__law_whole_of:mg "_law_whole_of" = some (.ref a__law_whole_of)
 b__law_whole_of:Binds K fd__law_whole_of ["_law_line"] []
 a__law_form_of:Addr
 fd__law_form_of:FuncData
 F__law_form_of:Fun K "_law_form_of" "_law_form_of" s__law_form_of a__law_form_of fd__law_form_of
 m__law_form_of:mg "_law_form_of" = some (.ref a__law_form_of)
 b__law_form_of:Binds K fd__law_form_of ["_law_line"] []
 a__law_ratio_of:Addr
 fd__law_ratio_of:FuncData
 F__law_ratio_of:Fun K "_law_ratio_of" "_law_ratio_of" s__law_ratio_of a__law_ratio_of fd__law_ratio_of
 m__law_ratio_of:mg "_law_ratio_of" = some (.ref a__law_ratio_of)
 b__law_ratio_of:Binds K fd__law_ratio_of ["_law_line"] []
 a__law_is_choose:Addr
 fd__law_is_choose:FuncData
 F__law_is_choose:Fun K "_law_is_choose" "_law_is_choose" s__law_is_choose a__law_is_choose fd__law_is_choose
 m__law_is_choose:mg "_law_is_choose" = some (.ref a__law_is_choose)
 b__law_is_choose:Binds K fd__law_is_choose ["_law_high","_law_low"] []
 a__law_part_of:Addr
 fd__law_part_of:FuncData
 F__law_part_of:Fun K "_law_part_of" "_law_part_of" s__law_part_of a__law_part_of fd__law_part_of
 m__law_part_of:mg "_law_part_of" = some (.ref a__law_part_of)
 b__law_part_of:Binds K fd__law_part_of ["_law_line"] []
 a__law_judged:Addr
 fd__law_judged:FuncData
 F__law_judged:Fun K "_law_judged" "_law_judged" s__law_judged a__law_judged fd__law_judged
 m__law_judged:mg "_law_judged" = some (.ref a__law_judged)
 b__law_judged:Binds K fd__law_judged ["_law_line"] []
 a_law:Addr
 fd_law:FuncData
 F_law:Fun K "law" "law" s_law a_law fd_law
 m_law:mg "law" = some (.ref a_law)
 b_law:Binds K fd_law ["_law_script"] []
 a_Choose___init__:Addr
 fd_Choose___init__:FuncData
 F_Choose___init__:Fun K "__init__" "Choose.__init__" s_Choose___init__ a_Choose___init__ fd_Choose___init__
 b_Choose___init__:Binds K fd_Choose___init__ ["self","upper","lower"] []
 a_Weight___init__:Addr
 fd_Weight___init__:FuncData
 F_Weight___init__:Fun K "__init__" "Weight.__init__" s_Weight___init__ a_Weight___init__ fd_Weight___init__
 b_Weight___init__:Binds K fd_Weight___init__ ["self","form"] []
 a_Power___init__:Addr
 fd_Power___init__:FuncData
 F_Power___init__:Fun K "__init__" "Power.__init__" s_Power___init__ a_Power___init__ fd_Power___init__
 b_Power___init__:Binds K fd_Power___init__ ["self","fraction"] []
 a_Growth___init__:Addr
 fd_Growth___init__:FuncData
 F_Growth___init__:Fun K "__init__" "Growth.__init__" s_Growth___init__ a_Growth___init__ fd_Growth___init__
 b_Growth___init__:Binds K fd_Growth___init__ ["self","fraction"] []
 a_Term___init__:Addr
 fd_Term___init__:FuncData
 F_Term___init__:Fun K "__init__" "Term.__init__" s_Term___init__ a_Term___init__ fd_Term___init__
 b_Term___init__:Binds K fd_Term___init__ ["self","parts"] []
 a_Term_told:Addr
 fd_Term_told:FuncData
 F_Term_told:Fun K "told" "Term.told" s_Term_told a_Term_told fd_Term_told
 b_Term_told:Binds K fd_Term_told ["self"] []
 c_NoNumber:Addr
 mc_NoNumber:mg "NoNumber" = some (.ref c_NoNumber)
 xc_NoNumber:PySem.W.excIn K c_NoNumber bmV "ValueError.__new__" = true
 c_NoTerm:Addr
 mc_NoTerm:mg "NoTerm" = some (.ref c_NoTerm)
 xc_NoTerm:PySem.W.excIn K c_NoTerm bmV "ValueError.__new__" = true
 c_SumError:Addr
 mc_SumError:mg "SumError" = some (.ref c_SumError)
 c_TooFew:Addr
 mc_TooFew:mg "TooFew" = some (.ref c_TooFew)
 c_NotKept:Addr
 mc_NotKept:mg "NotKept" = some (.ref c_NotKept)
 c_NoEnds:Addr
 mc_NoEnds:mg "NoEnds" = some (.ref c_NoEnds)
 c_NoLine:Addr
 mc_NoLine:mg "NoLine" = some (.ref c_NoLine)
 c_NoName:Addr
 mc_NoName:mg "NoName" = some (.ref c_NoName)
 c_NoRule:Addr
 mc_NoRule:mg "NoRule" = some (.ref c_NoRule)
 c_TooGreat:Addr
 mc_TooGreat:mg "TooGreat" = some (.ref c_TooGreat)
 c_NoPlace:Addr
 mc_NoPlace:mg "NoPlace" = some (.ref c_NoPlace)
 c_Choose:Addr
 mc_Choose:mg "Choose" = some (.ref c_Choose)
 cl_Choose:Cls K c_Choose
 mk_Choose:Mk K c_Choose a_Choose___init__
 na_Choose_above:NoAttr K c_Choose "above"
 na_Choose_lows:NoAttr K c_Choose "lows"
 c_Growth:Addr
 mc_Growth:mg "Growth" = some (.ref c_Growth)
 cl_Growth:Cls K c_Growth
 mk_Growth:Mk K c_Growth a_Growth___init__
 na_Growth_fraction:NoAttr K c_Growth "fraction"
 c_Part:Addr
 mc_Part:mg "Part" = some (.ref c_Part)
 cl_Part:Cls K c_Part
 c_Power:Addr
 mc_Power:mg "Power" = some (.ref c_Power)
 cl_Power:Cls K c_Power
 mk_Power:Mk K c_Power a_Power___init__
 na_Power_fraction:NoAttr K c_Power "fraction"
 c_Term:Addr
 mc_Term:mg "Term" = some (.ref c_Term)
 cl_Term:Cls K c_Term
 mk_Term:Mk K c_Term a_Term___init__
 me_Term_told:Meth K c_Term "told" a_Term_told
 na_Term_parts:NoAttr K c_Term "parts"
 na_Term_pieces:NoAttr K c_Term "pieces"
 oc_Term:OCl K c_Term
 c_Weight:Addr
 mc_Weight:mg "Weight" = some (.ref c_Weight)
 cl_Weight:Cls K c_Weight
 mk_Weight:Mk K c_Weight a_Weight___init__
 na_Weight_form:NoAttr K c_Weight "form"
 kc_NoTerm_SumError:Catches K c_NoTerm c_SumError
 ec_NoTerm:ExCls K c_NoTerm
 ki_NoTerm_NoRule:PySem.W.kitOne K (.ref c_NoTerm) (.ref c_NoRule)=some false
 ki_NoTerm_TooGreat:PySem.W.kitOne K (.ref c_NoTerm) (.ref c_TooGreat)=some false
 ki_NoTerm_TooFew:PySem.W.kitOne K (.ref c_NoTerm) (.ref c_TooFew)=some false
 ki_NoTerm_NotKept:PySem.W.kitOne K (.ref c_NoTerm) (.ref c_NotKept)=some false
 ki_NoTerm_NoNumber:PySem.W.kitOne K (.ref c_NoTerm) (.ref c_NoNumber)=some false
 ki_NoTerm_NoPlace:PySem.W.kitOne K (.ref c_NoTerm) (.ref c_NoPlace)=some false
 ki_NoTerm_NoTerm:PySem.W.kitOne K (.ref c_NoTerm) (.ref c_NoTerm)=some true
 ki_NoTerm_NoEnds:PySem.W.kitOne K (.ref c_NoTerm) (.ref c_NoEnds)=some false
 ki_NoTerm_NoLine:PySem.W.kitOne K (.ref c_NoTerm) (.ref c_NoLine)=some false
 ki_NoTerm_NoName:PySem.W.kitOne K (.ref c_NoTerm) (.ref c_NoName)=some false
 ki_NoTerm_ValueError:PySem.W.kitOne K (.ref c_NoTerm) (.type "ValueError")=some true
 ki_Term_Term:PySem.W.kitOne K (.ref c_Term) (.ref c_Term)=some true
 z_abs:mg "abs" = none
 z_all:mg "all" = none
 z_zip:mg "zip" = none
 z_str:mg "str" = none
 z_int:mg "int" = none
 z_len:mg "len" = none
 z_tuple:mg "tuple" = none
 z_range:mg "range" = none
 z_isinstance:mg "isinstance" = none
 z_ValueError:mg "ValueError" = none
 z_min:mg "min" = none
 z_max:mg "max" = none
 z_list:mg "list" = none
 g_LONG:{ t:Tok // mg "LONG" = some (.int 4000 t) }
 g_MOST_FIGURES:{ t:Tok // mg "MOST_FIGURES" = some (.int 60 t) }
 g_MOST_PARTS:{ t:Tok // mg "MOST_PARTS" = some (.int 6 t) }
 g_FIGURES:{ t:Tok // mg "FIGURES" = some (.str "0123456789" t) }
 g_BETWEEN_FORMS:{ t:Tok // mg "BETWEEN_FORMS" = some (.str ", " t) }
 g_BETWEEN_PARTS:{ t:Tok // mg "BETWEEN_PARTS" = some (.str " * " t) }
 gt_GREATEST:{ u:Addr // mg "GREATEST" = some (.ref u)∧∀H:Hp,SqT K H u [.int (3),.int (3),.int (9)] }
 gt_UPPER_LEAST:{ u:Addr // mg "UPPER_LEAST" = some (.ref u)∧∀H:Hp,SqT K H u [.int (0),.int (0),.int (0)] }
 gt_LOWER_LEAST:{ u:Addr // mg "LOWER_LEAST" = some (.ref u)∧∀H:Hp,SqT K H u [.int (-3),.int (-3),.int (-9)] }
 gt_LETTERS:{ u:Addr // mg "LETTERS" = some (.ref u)∧(∀H:Hp,SqT K H u [.str "n",.str "k",.str ""])∧∃o,K.lookup u=some o∧o.cls=.type "tuple" ∧ o.dict=none }
theorem abs_nat (a:Int):(if a < 0 then -a else a)=((a.natAbs:Nat):Int):=by split <;> omega
def spGcd:Sp:=fun vs H Q _=>∃a b:Int,vs=[.int a,.int b]∧b.natAbs < 2 ^ 4000∧Q (.int (Nat.gcd a.natAbs b.natAbs:Nat)) H
theorem bits_le {b:Int} (h:b.natAbs < 2 ^ 4000):¬(4000:Int) < ((Builtin.Int.intBits ((b.natAbs:Nat):Int):Nat):Int):=by
 have:=intBits_le_of (i:=((b.natAbs:Nat):Int)) (k:=4000) (by rw [Int.natAbs_natCast];exact h)
 omega
theorem ok_divisor {P:Program} {w:World} {K:W.Frag} {mg:Str->Option Value} {base:Heap} (T:Tx K mg):FnOk P w K mg base CX0 1 T.a_divisor T.fd_divisor ["one","other"] spGcd:=by
 refine T.F_divisor.ok sc_divisor (fun vs H Q E h=>?_) (fun cdv A outer s H vs Q E hr h=>?_)
 ·obtain⟨a,b,rfl,_⟩:=h
  rfl
 obtain⟨a,b,rfl,hb,q⟩:=h
 refine⟨_,((pss_cons (ps_set (i:=2) sc_divisor.nd rfl (Or.inl rfl) (pe_callB call_abs rfl T.z_abs bt_abs (pa_cons (pv 0) pa_nil)))
  (pss_cons (ps_set (i:=3) sc_divisor.nd rfl (Or.inl rfl) (pe_callB call_abs rfl T.z_abs bt_abs (pa_cons (pv 1) pa_nil)))
  (pss_cons (ps_while PassesOwn.never (pt_cmpR op_gt (pe_bm0 PySem.F.plainAttrs_int PySem.F.slot_int_bit_length PySem.F.type_int_bit_length mt_bitlen (pv 3)) (pe_glob (v:=.int 4000) rfl T.g_LONG.2 ⟨_,rfl⟩) (nomark _)) pss_never)
  (pss_cons (ps_while PassesOwn.never (pt_cmpR op_ne (pv 3) pe_int (nomark _)) (pss_cons (ps_set (i:=5) sc_divisor.nd rfl (Or.inl rfl) (pe_op op_mod (pv 2) (pv 3)))
  (pss_cons (ps_set (i:=2) sc_divisor.nd rfl (Or.inl rfl) (pv 3))
  (pss_one (ps_set (i:=3) sc_divisor.nd rfl (Or.inl rfl) (pv 5))))))
  (pss_one (ps_ret (pv 2)))))))),?_⟩
 (iterate 3 (k_units;(try simp only [abs_nat]));k_units)
 refine while_of (fun m σ H'=>σ=[some (V.int a),some (V.int b),some (V.int a.natAbs),some (V.int b.natAbs),none,none]∧H'=H) 0 ⟨rfl,rfl⟩ ?_
 rintro m σ H' ⟨rfl,rfl⟩
 k_units
 rw [if_neg (bits_le hb)]
 refine while_of (fun m σ H1=>∃(x y:Nat) (r:Option V),σ=[some (V.int a),some (V.int b),some (.int x),some (.int y),none,r]∧H1=H'∧m=y∧Nat.gcd x y=Nat.gcd a.natAbs b.natAbs) b.natAbs ⟨a.natAbs,b.natAbs,none,rfl,rfl,rfl,rfl⟩ ?_
 rintro m σ H1 ⟨x,y,r,rfl,rfl,rfl,hg⟩
 k_units
 refine ite2 (fun h=>?_) (fun h=>?_)
 ·refine⟨fun σ' H2=>σ'=[some (V.int a),some (V.int b),some (V.int m),some (V.int ((x:Int) % (m:Int))),none,some (V.int ((x:Int) % (m:Int)))]∧H2=H1,?_,by omega,rfl,rfl⟩
  rintro σ' H2 ⟨rfl,rfl⟩
  refine⟨x % m,Nat.mod_lt _ (by omega),m,x % m,_,by rw [← Int.natCast_emod],rfl,rfl,?_⟩
  rw [Nat.gcd_comm m,← Nat.gcd_rec,Nat.gcd_comm];exact hg
 ·have h0:m=0:=by omega
  subst h0
  rw [Nat.gcd_zero_right] at hg
  rw [hg];exact q
def spGcdL:Sp:=fun vs H Q _=>∃a b:Int,vs=[.int a,.int b]∧Q (.int (Nat.gcd a.natAbs b.natAbs:Nat)) H
theorem ok__law_divisor {P:Program} {w:World} {K:W.Frag} {mg:Str->Option Value} {base:Heap} (T:Tx K mg):FnOk P w K mg base CX0 1 T.a__law_divisor T.fd__law_divisor ["_law_one","_law_other"] spGcdL:=by
 refine T.F__law_divisor.ok sc__law_divisor (fun vs H Q E h=>?_) (fun cdv A outer s H vs Q E hr h=>?_)
 ·obtain⟨a,b,rfl,_⟩:=h
  rfl
 obtain⟨a,b,rfl,q⟩:=h
 refine⟨_,((pss_cons (ps_set (i:=0) sc__law_divisor.nd rfl (Or.inl rfl) (pe_callB call_abs rfl T.z_abs bt_abs (pa_cons (pv 0) pa_nil)))
  (pss_cons (ps_set (i:=1) sc__law_divisor.nd rfl (Or.inl rfl) (pe_callB call_abs rfl T.z_abs bt_abs (pa_cons (pv 1) pa_nil)))
  (pss_cons (ps_while PassesOwn.never (pt_cmpR op_ne (pv 0) pe_int (nomark _)) (pss_cons (ps_set (i:=2) sc__law_divisor.nd rfl (Or.inl rfl) (pe_op op_mod (pv 1) (pv 0)))
  (pss_cons (ps_set (i:=1) sc__law_divisor.nd rfl (Or.inl rfl) (pv 0))
  (pss_one (ps_set (i:=0) sc__law_divisor.nd rfl (Or.inl rfl) (pv 2))))))
  (pss_one (ps_ret (pv 1))))))),?_⟩
 (iterate 3 (k_units;(try simp only [abs_nat]));k_units)
 refine while_of (fun m σ H'=>∃(x y:Nat) (r:Option V),σ=[some (.int x),some (.int y),r]∧H'=H∧m=x∧Nat.gcd x y=Nat.gcd a.natAbs b.natAbs) a.natAbs ⟨a.natAbs,b.natAbs,none,rfl,rfl,rfl,rfl⟩ ?_
 rintro m σ H' ⟨x,y,r,rfl,rfl,rfl,hg⟩
 dsimp only [a_seq]
 k_typeOf
 refine ite2 (fun h=>?_) (fun h=>?_)
 ·skip
  dsimp only [a_seq]
  k_typeOf
  refine⟨fun σ' H1=>σ'=[some (V.int ((y:Int) % (m:Int))),some (V.int m),some (V.int ((y:Int) % (m:Int)))]∧H1=H',?_,by omega,rfl,rfl⟩
  rintro σ' H1 ⟨rfl,rfl⟩
  refine⟨y % m,Nat.mod_lt _ (by omega),y % m,m,_,by rw [← Int.natCast_emod],rfl,rfl,?_⟩
  rw [← Nat.gcd_rec];exact hg
 ·have h0:m=0:=by omega
  subst h0
  rw [Nat.gcd_zero_left] at hg
  rw [hg];exact q
def mkT (H:Hp) (Q:VK) (x y:Int):Prop:=∀p,H p=none->Q (.ref p) (upd H p (.tup [.int x,.int y]))
theorem bd_le {k:Nat} {x y:Int} (h:x.natAbs<=y.natAbs) (b:Bd k y):Bd k x:=Nat.lt_of_le_of_lt h b
def spRatio (c:Addr):Sp:=fun vs H Q E=>∃t b:Int,vs=[.int t,.int b]∧Bd 3000 b∧
 ((b≠0∧∀x y:Int,1<=y->Nat.gcd x.natAbs y.natAbs=1->x * b=t * y->x.natAbs<=t.natAbs->y.natAbs<=b.natAbs->mkT H Q x y)∨(b=0∧E (.ref c) none H))
theorem ok_ratio {P:Program} {w:World} {K:W.Frag} {mg:Str->Option Value} {base:Heap} (T:Tx K mg):FnOk P w K mg base (CXE P w) 2 T.a_ratio T.fd_ratio ["top","bottom"] (spRatio T.c_NoNumber):=by
 refine T.F_ratio.okE sc_ratio (fun vs H Q E h=>?_) (fun cdv A outer s H vs Q E hr h=>?_)
 ·obtain⟨t,b,rfl,_⟩:=h
  rfl
 obtain⟨t,b,rfl,hb,q⟩:=h
 refine⟨_,((pss_cons (ps_if (PT.nox (pt_cmpR op_eq (pv 1) pe_int (nomark _))) (pss_one (ps_raise rfl throwE rfl T.mc_NoNumber T.xc_NoNumber (pa_cons pe_str pa_nil))) pss_nil)
  (pss_cons (PS.nox (ps_set (i:=2) sc_ratio.nd rfl (Or.inl rfl) (pe_call (FnOk.mono (ok_divisor T) (by decide)) hr rfl T.m_divisor T.F_divisor.kp T.b_divisor .nil pass0 (pa_cons (pv 0) (pa_cons (pv 1) pa_nil)))))
  (pss_cons (PS.nox (ps_if (pt_cmpR op_lt (pv 1) pe_int (nomark _)) (pss_one (ps_set (i:=2) sc_ratio.nd rfl (Or.inl rfl) (pe_un un_neg (pv 2)))) pss_nil))
  (pss_one (PS.nox (ps_ret (pe_tup (pa_cons (pe_op op_fdivB (pv 0) (pv 2)) (pa_cons (pe_op op_fdivB (pv 1) (pv 2)) pa_nil)))))))))),?_⟩
 k_units
 refine ite2 (fun h0=>?_) (fun h0=>?_)
 ·rcases q with ⟨hn,_⟩ | ⟨_,q⟩
  ·exact absurd h0 hn
  ·exact⟨by decide,q⟩
 ·obtain⟨hn,q⟩:=q.resolve_right fun z=>h0 z.1
  refine⟨t,b,rfl,Nat.lt_of_lt_of_le hb (Nat.pow_le_pow_right (by decide) (by decide)),?_⟩
  have small:∀s:Int,s.natAbs=Nat.gcd t.natAbs b.natAbs->s.natAbs < 2 ^ 9000:=fun s e=>by
   rw [e]
   exact Nat.lt_of_le_of_lt (Nat.gcd_le_right _ (by omega)) (Nat.lt_of_lt_of_le hb (Nat.pow_le_pow_right (by decide) (by decide)))
  have fin:∀s:Int,(s=if b < 0 then -((Nat.gcd t.natAbs b.natAbs:Nat):Int) else ((Nat.gcd t.natAbs b.natAbs:Nat):Int))->(s≠0∧s.natAbs < 2 ^ 9000)∧(s≠0∧s.natAbs < 2 ^ 9000)∧mkT H Q (t.fdiv s) (b.fdiv s):=fun s e=>by
   obtain⟨g1,g2,g3,g4,g5,g6⟩:=gcd_split hn e
   refine⟨⟨g1,small s g2⟩,⟨g1,small s g2⟩,q _ _ g5 g6 ?_ (fdiv_le g1 g3) (fdiv_le g1 g4)⟩
   rw [Int.mul_comm,g4,Int.mul_assoc,← g4]
   generalize b.fdiv s=y at *
   generalize t.fdiv s=x at *
   rw [g3,Int.mul_assoc,Int.mul_comm x y]
  refine ite2 (fun hneg=>?_) (fun hneg=>?_)
  ·obtain⟨f1,f2,f3⟩:=fin _ (by rw [if_pos hneg])
   exact⟨_,rfl,f1.1,f1.2,f2.1,f2.2,by decide,f3⟩
  ·obtain⟨f1,f2,f3⟩:=fin _ (by rw [if_neg hneg])
   exact⟨_,rfl,f1.1,f1.2,_,rfl,f2.1,f2.2,by decide,f3⟩
def cntT (n:Int) (lt:List Nat):List Nat:=if lt=[]∨1 < n.natAbs then TX.shI n++lt else if 0 < n then lt else 45 :: lt
def stepT (acc:List Nat) (n:Int) (lt:List Nat):List Nat:=if n=0 then acc else acc++((if 0 < n∧acc≠[] then [43] else [])++cntT n lt)
def allT (f:Int×Int×Int):List Nat:=stepT (stepT (stepT [] f.1 [110]) f.2.1 [107]) f.2.2 []
def shF (f:Int×Int×Int):List Nat:=if allT f=[] then [48] else allT f
def shR (f:Int×Int):List Nat:=if f.2=1 then TX.shI f.1 else TX.shI f.1++47 :: TX.shI f.2
theorem log_of {n:Int} {k:Nat} (h:n.natAbs < 2 ^ k) (hk:k<=1920) (k0:0 < k):n.natAbs.log2 < 1920:=by
 by_cases z:n.natAbs=0
 ·rw [z];decide
 ·exact Nat.lt_of_lt_of_le ((Nat.log2_lt z).mpr h) hk
theorem l_sl:Str.ofString "/" = TX.S [47]:=rfl
theorem l_pl:Str.ofString "+" = TX.S [43]:=rfl
theorem l_mi:Str.ofString "-" = TX.S [45]:=rfl
theorem l_n:Str.ofString "n" = TX.S [110]:=rfl
theorem l_k:Str.ofString "k" = TX.S [107]:=rfl
theorem l_e:Str.ofString "" = TX.S []:=rfl
theorem l_0:Str.ofString "0" = TX.S [48]:=rfl
theorem ten_400:2 ^ 400<=10 ^ 121:=by decide +kernel
theorem sh_len {n:Int} (h:n.natAbs < 2 ^ 400):(TX.shI n).length<=122:=by
 have:=TX.dg_len (m:=n.natAbs) (k:=121) (Nat.lt_of_lt_of_le h ten_400) (by decide)
 unfold TX.shI;split
 ·simp;omega
 ·omega
theorem sl_of {n:Nat} (h:n<=10000):n<=sizeLine:=Nat.le_trans h (by decide)
def spShR (K:W.Frag):Sp:=fun vs H Q _=>∃(p:Addr) (f:Int×Int),vs=[.ref p]∧SqT K H p [.int f.1,.int f.2]∧f.1.natAbs < 2 ^ 400∧f.2.natAbs < 2 ^ 400∧Q (.str (TX.S (shR f))) H
theorem ok_show_ratio {P:Program} {w:World} {K:W.Frag} {mg:Str->Option Value} {base:Heap} (T:Tx K mg):FnOk P w K mg base CX0 1 T.a_show_ratio T.fd_show_ratio ["fraction"] (spShR K):=by
 refine T.F_show_ratio.ok sc_show_ratio (fun vs H Q E h=>?_) (fun cdv A outer s H vs Q E hr h=>?_)
 ·obtain⟨p,f,rfl,_⟩:=h
  rfl
 obtain⟨p,f,rfl,hp,b1,b2,q⟩:=h
 refine⟨_,((pss_cons (ps_if (pt_cmpR op_eq (pe_ix ix_tup (pv 0) pe_int (fun _ _=>rfl)) pe_int (nomark _)) (pss_one (ps_ret (pe_callTy call_str_int rfl T.z_str bt_str (pa_cons (pe_ix ix_tup (pv 0) pe_int (fun _ _=>rfl)) pa_nil)))) pss_nil)
  (pss_one (ps_ret (pe_op op_catS (pe_op op_catS (pe_callTy call_str_int rfl T.z_str bt_str (pa_cons (pe_ix ix_tup (pv 0) pe_int (fun _ _=>rfl)) pa_nil)) pe_str) (pe_callTy call_str_int rfl T.z_str bt_str (pa_cons (pe_ix ix_tup (pv 0) pe_int (fun _ _=>rfl)) pa_nil))))))),?_⟩
 dsimp only [a_seq]
 k_typeOf
 refine⟨_,hp,_,rfl,?_⟩
 rw [a_eqI]
 refine⟨_,rfl,ite2 (fun h=>?_) (fun h=>?_)⟩
 ·have e:f.2=1:=of_decide_eq_true h
  refine⟨_,hp,_,rfl,_,rfl,log_of b1 (by decide) (by decide),?_⟩
  rw [TX.toS]
  unfold shR at q
  rw [if_pos e] at q
  exact q
 ·have e:f.2≠1:=fun z=>h (decide_eq_true z)
  unfold shR at q
  rw [if_neg e] at q
  have l1:=sh_len b1
  have l2:=sh_len b2
  refine⟨_,hp,_,rfl,_,rfl,log_of b1 (by decide) (by decide),?_,_,hp,_,rfl,_,rfl,log_of b2 (by decide) (by decide),?_,?_⟩
  ·rw [TX.toS,l_sl,TX.S_len,TX.S_len];exact sl_of (by simp;omega)
  ·rw [TX.toS,TX.toS,l_sl,TX.S_app,TX.S_len,TX.S_len];exact sl_of (by simp;omega)
  ·rw [TX.toS,TX.toS,l_sl,TX.S_app,TX.S_app]
   simpa using q
def spCnt:Sp:=fun vs H Q _=>∃(n:Int) (lt:List Nat),vs=[.int n,.str (TX.S lt)]∧n≠0∧n.natAbs < 2 ^ 400∧lt.length<=5∧Q (.str (TX.S (cntT n lt))) H
theorem ok_show_counted {P:Program} {w:World} {K:W.Frag} {mg:Str->Option Value} {base:Heap} (T:Tx K mg):FnOk P w K mg base CX0 1 T.a_show_counted T.fd_show_counted ["number","letter"] spCnt:=by
 refine T.F_show_counted.ok sc_show_counted (fun vs H Q E h=>?_) (fun cdv A outer s H vs Q E hr h=>?_)
 ·obtain⟨n,lt,rfl,_⟩:=h
  rfl
 obtain⟨n,lt,rfl,n0,bn,ll,q⟩:=h
 refine⟨_,((pss_cons (ps_if (PW.pt (pw_or (pt_cmpR op_eq (pv 1) pe_str (nomark _)) (pw_or1 (pt_cmpR op_gt (pe_callB call_abs rfl T.z_abs bt_abs (pa_cons (pv 0) pa_nil)) pe_int (nomark _))))) (pss_one (ps_ret (pe_op op_catS (pe_callTy call_str_int rfl T.z_str bt_str (pa_cons (pv 0) pa_nil)) (pv 1)))) pss_nil)
  (pss_one (ps_ret (pe_ifExp (pt_cmpR op_gt (pv 0) pe_int (nomark _)) (pv 1) (pe_op op_catS pe_str (pv 1))))))),?_⟩
 dsimp only [a_seq]
 k_typeOf
 rw [l_e]
 have l1:=sh_len bn
 have big:lt=[]∨1 < n.natAbs->n.natAbs.log2 < 1920∧(Str.ofString (toString n)).length+(TX.S lt).length<=sizeLine∧Q (V.str (Str.ofString (toString n)++TX.S lt)) H:=fun h=>by
  unfold cntT at q
  rw [if_pos h] at q
  refine⟨log_of bn (by decide) (by decide),?_,?_⟩
  ·rw [TX.toS,TX.S_len,TX.S_len];exact sl_of (by omega)
  ·rw [TX.toS,TX.S_app];exact q
 refine ite2 (fun h=>big (.inl (TX.S_inj h))) (fun h=>ite2 (fun h2=>big (.inr (by split at h2 <;> omega))) (fun h2=>?_))
 have nb:¬(lt=[]∨1 < n.natAbs):=fun z=>by
  rcases z with z | z
  ·exact h (by rw [z])
  ·exact h2 (by split <;> omega)
 unfold cntT at q
 rw [if_neg nb] at q
 refine ite2 (fun h3=>?_) (fun h3=>?_)
 ·rw [if_pos h3] at q;exact q
 ·rw [if_neg h3] at q
  refine⟨?_,?_⟩
  ·rw [l_mi,TX.S_len,TX.S_len];exact sl_of (by simp;omega)
  ·rw [l_mi,TX.S_app];exact q
theorem cnt_len {n:Int} {lt:List Nat} (h:n.natAbs < 2 ^ 400) (hl:lt.length<=5):(cntT n lt).length<=130:=by
 have:=sh_len h
 unfold cntT;split
 ·simp;omega
 ·split <;> simp <;> omega
def Ltr (i:Nat):List Nat:=if i=0 then [110] else if i=1 then [107] else []
def fat (f:Int×Int×Int) (i:Nat):Int:=if i=0 then f.1 else if i=1 then f.2.1 else f.2.2
def upT (f:Int×Int×Int):Nat->List Nat
 | 0=>[]
 | i+1=>stepT (upT f i) (fat f i) (Ltr i)
theorem up_3 (f:Int×Int×Int):upT f 3=allT f:=rfl
theorem step_len {acc:List Nat} {n:Int} {lt:List Nat} (h:n.natAbs < 2 ^ 400) (hl:lt.length<=5):(stepT acc n lt).length<=acc.length+131:=by
 have:=cnt_len h hl
 unfold stepT;split
 ·omega
 ·simp only [List.length_append]
  split <;> simp <;> omega
def FBd (f:Int×Int×Int) (b:Nat):Prop:=f.1.natAbs < 2 ^ b∧f.2.1.natAbs < 2 ^ b∧f.2.2.natAbs < 2 ^ b
theorem fat_bd {f:Int×Int×Int} {b:Nat} (h:FBd f b) (i:Nat):(fat f i).natAbs < 2 ^ b:=by
 unfold fat;split
 ·exact h.1
 ·split
  ·exact h.2.1
  ·exact h.2.2
theorem ltr_len (i:Nat):(Ltr i).length<=5:=by unfold Ltr;split;simp;split <;> simp
theorem up_len {f:Int×Int×Int} (h:FBd f 400):∀i,(upT f i).length<=131 * i
 | 0=>by simp [upT]
 | i+1=>by
  have:=up_len h i
  have:=step_len (acc:=upT f i) (fat_bd h i) (ltr_len i)
  show (stepT _ _ _).length<=_
  omega
def spShF (K:W.Frag):Sp:=fun vs H Q _=>∃(p:Addr) (f:Int×Int×Int),vs=[.ref p]∧SqT K H p [.int f.1,.int f.2.1,.int f.2.2]∧FBd f 400∧∀H',Same H H'->Q (.str (TX.S (shF f))) H'
theorem ok_show_form {P:Program} {w:World} {K:W.Frag} {mg:Str->Option Value} {base:Heap} (T:Tx K mg):FnOk P w K mg base CX0 2 T.a_show_form T.fd_show_form ["form"] (spShF K):=by
 refine T.F_show_form.ok sc_show_form (fun vs H Q E h=>?_) (fun cdv A outer s H vs Q E hr h=>?_)
 ·obtain⟨p,f,rfl,_⟩:=h
  rfl
 obtain⟨p,f,rfl,hp,bf,q⟩:=h
 refine⟨_,((pss_cons (ps_set (i:=1) sc_show_form.nd rfl (Or.inl rfl) pe_str)
  (pss_cons (ps_for PassesOwn.never rfl (pi_zipB rfl T.z_zip (pa_cons (pv 0) (pa_cons (pe_glob (v:=.ref T.gt_LETTERS.1) rfl T.gt_LETTERS.2.1 rfl) pa_nil))) (pg_tup rfl (pgs_cons (pg_name (i:=2) sc_show_form.nd rfl (Or.inl rfl)) (pgs_cons (pg_name (i:=3) sc_show_form.nd rfl (Or.inl rfl)) pgs_nil))) (pss_one (ps_if (pt_cmpR op_ne (pv 2) pe_int (nomark _)) (pss_cons (ps_set (i:=4) sc_show_form.nd rfl (Or.inl rfl) (pe_ifExp (PW.pt (pw_and (pt_cmpR op_gt (pv 2) pe_int (nomark _)) (pw_and1 (pt_cmpR op_ne (pv 1) pe_str (nomark _))))) pe_str pe_str))
  (pss_one (ps_aug (i:=1) sc_show_form.nd rfl (Or.inl rfl) (pe_op op_catS (pv 4) (pe_call (FnOk.mono (ok_show_counted T) (by decide)) hr rfl T.m_show_counted T.F_show_counted.kp T.b_show_counted .nil pass0 (pa_cons (pv 2) (pa_cons (pv 3) pa_nil)))) ip_addS))) pss_nil)))
  (pss_one (ps_ret (pe_ifExp (pt_cmpR op_ne (pv 1) pe_str (nomark _)) (pv 1) pe_str)))))),?_⟩
 dsimp only [a_seq]
 k_typeOf
 dsimp only [a_seq]
 k_typeOf
 have hL:∀H',SqT K H' T.gt_LETTERS.1 ([0,1,2].map fun i=>V.str (TX.S (Ltr i))):=T.gt_LETTERS.2.2.1
 have hF:SqT K H p ([0,1,2].map fun i=>V.int (fat f i)):=hp
 obtain⟨Pv,hPv⟩:∃Pv:Nat->L2.St->Hp->Prop,∀i σ Hx,Pv i σ Hx↔∃r2 r3 r4,σ=[some (.ref p),some (.str (TX.S (upT f i))),r2,r3,r4]∧Same H Hx:=⟨_,fun _ _ _=>Iff.rfl⟩
 refine⟨_,_,.inr ⟨hF,hL _,?_⟩⟩
 refine lp_zipT (xs:=[0,1,2].map fun i=>V.int (fat f i)) (ys:=[0,1,2].map fun i=>V.str (TX.S (Ltr i))) Pv ((hPv _ _ _).mpr ⟨_,_,_,rfl,Same.refl _⟩) (fun i σ Hx _ _ z=>?_) ?_ ?_
 ·obtain⟨_,_,_,_,z⟩:=(hPv _ _ _).mp z
  exact⟨Same.seqT z hF,hL _⟩
 ·intro i v1 v2 pt σ Hx e1 e2 z npt
  obtain⟨r2,r3,r4,rfl,sH⟩:=(hPv _ _ _).mp z
  have i3:i < 3:=by have:=(List.getElem?_eq_some_iff.mp e1).1;simpa using this
  have ev:v1=.int (fat f i)∧v2=.str (TX.S (Ltr i)):=by
   match i,i3,e1,e2 with
   | 0,_,e1,e2=>exact⟨by simpa using e1.symm,by simpa using e2.symm⟩
   | 1,_,e1,e2=>exact⟨by simpa using e1.symm,by simpa using e2.symm⟩
   | 2,_,e1,e2=>exact⟨by simpa using e1.symm,by simpa using e2.symm⟩
  obtain⟨rfl,rfl⟩:=ev
  clear e1 e2 z
  have s5:=same_upd npt (.tup [V.int (fat f i),V.str (TX.S (Ltr i))])
  k_units
  refine⟨_,SqT.of upd_same,rfl,?_⟩
  k_units
  have lu:=up_len bf i
  have lc:=cnt_len (fat_bd bf i) (ltr_len i)
  rw [l_e,l_pl]
  have go:∀sg:List Nat,fat f i≠0->sg.length<=1->upT f (i+1)=upT f i++(sg++cntT (fat f i) (Ltr i))->spCnt [V.int (fat f i),V.str (TX.S (Ltr i))] (upd Hx pt (HO.tup [V.int (fat f i),V.str (TX.S (Ltr i))]))
     (fun y H2=>∃x,y=V.str x∧(TX.S sg).length+x.length<=sizeLine∧(TX.S (upT f i)).length+(TX.S sg++x).length<=sizeLine∧Pv (i+1) [some (V.ref p),some (V.str (TX.S (upT f i)++(TX.S sg++x))),some (V.int (fat f i)),some (V.str (TX.S (Ltr i))),some (V.str (TX.S sg))] H2) E0:=fun sg n0 ls e=>by
   refine⟨_,_,rfl,n0,fat_bd bf i,ltr_len i,_,rfl,?_,?_,?_⟩
   ·rw [TX.S_len,TX.S_len];exact sl_of (by omega)
   ·rw [TX.S_app,TX.S_len,TX.S_len,List.length_append];exact sl_of (by omega)
   ·rw [TX.S_app,TX.S_app,← e];exact (hPv _ _ _).mpr ⟨_,_,_,rfl,sH.trans s5⟩
  have us:upT f (i+1)=stepT (upT f i) (fat f i) (Ltr i):=rfl
  refine ite2 (fun n0=>ite2 (fun pos=>ite2 (fun ne=>go [43] n0 (by simp) ?_) (fun ne=>go [] n0 (by simp) ?_)) (fun pos=>go [] n0 (by simp) ?_)) (fun n0=>(hPv _ _ _).mpr ⟨some (.int (fat f i)),some (.str (TX.S (Ltr i))),r4,?_,sH.trans s5⟩)
  ·rw [us];unfold stepT;rw [if_neg n0,if_pos ⟨pos,fun z=>ne (by rw [z])⟩]
  ·rw [us];unfold stepT;rw [if_neg n0,if_neg (fun z=>z.2 (TX.S_inj (Classical.not_not.mp ne)))]
  ·rw [us];unfold stepT;rw [if_neg n0,if_neg (fun z=>pos z.1)]
  ·rw [us];unfold stepT;rw [if_pos (Classical.not_not.mp n0)]
 ·intro σ Hx z
  obtain⟨r2,r3,r4,rfl,sH⟩:=(hPv _ _ _).mp z
  k_units
  have q':=q _ sH
  unfold shF at q'
  rw [l_e,l_0]
  show if ¬TX.S (upT f 3)=TX.S [] then Q (V.str (TX.S (upT f 3))) Hx else Q (V.str (TX.S [48])) Hx
  rw [up_3]
  refine ite2 (fun h=>?_) (fun h=>?_)
  ·rw [if_neg (fun z=>h (by rw [z]))] at q';exact q'
  ·rw [if_pos (TX.S_inj (Classical.not_not.mp h))] at q';exact q'
def Frc (f:Int×Int):Prop:=1<=f.2∧Nat.gcd f.1.natAbs f.2.natAbs=1
def spLowF (K:W.Frag):Sp:=fun vs H Q _=>∃(p q:Addr) (a b c d e f:Int),vs=[.ref p,.ref q]∧SqT K H p [.int a,.int b,.int c]∧SqT K H q [.int d,.int e,.int f]∧
 ∀(L t:Addr) (H':Hp),Same H H'->H L=none->H t=none->H' L=some (.lst [.ref q,.ref t])->H' t=some (.tup [.int (a - d),.int (b - e),.int (c - f)])->Q (.ref L) H'
theorem ok_low_forms {P:Program} {w:World} {K:W.Frag} {mg:Str->Option Value} {base:Heap} (T:Tx K mg):FnOk P w K mg base CX0 1 T.a_low_forms T.fd_low_forms ["upper","lower"] (spLowF K):=by
 refine T.F_low_forms.ok sc_low_forms (fun vs H Q E h=>?_) (fun cdv A outer s H vs Q E hr h=>?_)
 ·obtain⟨p,q,a,b,c,d,e,f,rfl,_⟩:=h
  rfl
 obtain⟨p,q,a,b,c,d,e,f,rfl,hp,hq,z⟩:=h
 refine⟨_,((pss_one (ps_ret (pe_lst (pa_cons (pv 1) (pa_cons (pe_tup (pa_cons (pe_op op_sub (pe_ix ix_tup (pv 0) pe_int (fun _ _=>rfl)) (pe_ix ix_tup (pv 1) pe_int (fun _ _=>rfl))) (pa_cons (pe_op op_sub (pe_ix ix_tup (pv 0) pe_int (fun _ _=>rfl)) (pe_ix ix_tup (pv 1) pe_int (fun _ _=>rfl))) (pa_cons (pe_op op_sub (pe_ix ix_tup (pv 0) pe_int (fun _ _=>rfl)) (pe_ix ix_tup (pv 1) pe_int (fun _ _=>rfl))) pa_nil)))) pa_nil)))))),?_⟩
 k_units
 refine⟨_,hp,_,rfl,_,hq,_,rfl,_,rfl,_,rfl,_,hp,_,rfl,_,hq,_,rfl,_,rfl,_,rfl,_,hp,_,rfl,_,hq,_,rfl,_,rfl,_,rfl,by decide,fun t nt=>⟨by decide,fun L nL=>?_⟩⟩
 have u1:=same_upd nt (.tup [V.int (a - d),V.int (b - e),V.int (c - f)])
 have u2:=same_upd nL (.lst [V.ref q,V.ref t])
 exact z L t _ (u1.trans u2) (u1.free nL) nt upd_same (u2 _ _ upd_same)
def wgtF (p:Addr):List (Str×V):=[(Str.ofString "form",.ref p)]
def spWInit (C:Addr):Sp:=fun vs H Q _=>∃x dx p:Addr,vs=[.ref x,.ref p]∧H x=some (.ins C dx [])∧Q .non (upd H x (.ins C dx (wgtF p)))
theorem ok_Weight___init__ {P:Program} {w:World} {K:W.Frag} {mg:Str->Option Value} {base:Heap} (T:Tx K mg):FnOk P w K mg base CX0 1 T.a_Weight___init__ T.fd_Weight___init__ ["self","form"] (spWInit T.c_Weight):=by
 refine T.F_Weight___init__.ok sc_Weight___init__ (fun vs H Q E h=>?_) (fun cdv A outer s H vs Q E hr h=>?_)
 ·obtain⟨x,dx,p,rfl,_⟩:=h
  rfl
 obtain⟨x,dx,p,rfl,hx,q⟩:=h
 refine⟨_,((pss_one (ps_fld (pv 0) (pv 1) rfl))),?_⟩
 k_units
 exact⟨T.c_Weight,dx,[],hx,T.cl_Weight,T.na_Weight_form,by decide,q⟩
def powF (p:Addr):List (Str×V):=[(Str.ofString "fraction",.ref p)]
def spPInit (C:Addr):Sp:=fun vs H Q _=>∃x dx p:Addr,vs=[.ref x,.ref p]∧H x=some (.ins C dx [])∧Q .non (upd H x (.ins C dx (powF p)))
theorem ok_Power___init__ {P:Program} {w:World} {K:W.Frag} {mg:Str->Option Value} {base:Heap} (T:Tx K mg):FnOk P w K mg base CX0 1 T.a_Power___init__ T.fd_Power___init__ ["self","fraction"] (spPInit T.c_Power):=by
 refine T.F_Power___init__.ok sc_Power___init__ (fun vs H Q E h=>?_) (fun cdv A outer s H vs Q E hr h=>?_)
 ·obtain⟨x,dx,p,rfl,_⟩:=h
  rfl
 obtain⟨x,dx,p,rfl,hx,q⟩:=h
 refine⟨_,((pss_one (ps_fld (pv 0) (pv 1) rfl))),?_⟩
 k_units
 exact⟨T.c_Power,dx,[],hx,T.cl_Power,T.na_Power_fraction,by decide,q⟩
theorem ok_Growth___init__ {P:Program} {w:World} {K:W.Frag} {mg:Str->Option Value} {base:Heap} (T:Tx K mg):FnOk P w K mg base CX0 1 T.a_Growth___init__ T.fd_Growth___init__ ["self","fraction"] (spPInit T.c_Growth):=by
 refine T.F_Growth___init__.ok sc_Growth___init__ (fun vs H Q E h=>?_) (fun cdv A outer s H vs Q E hr h=>?_)
 ·obtain⟨x,dx,p,rfl,_⟩:=h
  rfl
 obtain⟨x,dx,p,rfl,hx,q⟩:=h
 refine⟨_,((pss_one (ps_fld (pv 0) (pv 1) rfl))),?_⟩
 k_units
 exact⟨T.c_Growth,dx,[],hx,T.cl_Growth,T.na_Growth_fraction,by decide,q⟩
def chsF (p L:Addr):List (Str×V):=[(Str.ofString "above",.ref p),(Str.ofString "lows",.ref L)]
def spCInit (K:W.Frag) (C:Addr):Sp:=fun vs H Q _=>∃(x dx p q:Addr) (a b c d e f:Int),vs=[.ref x,.ref p,.ref q]∧H x=some (.ins C dx [])∧SqT K H p [.int a,.int b,.int c]∧SqT K H q [.int d,.int e,.int f]∧
 ∀(L t:Addr) (H':Hp),(∀y o,y≠x->H y=some o->H' y=some o)->H L=none->H t=none->H' x=some (.ins C dx (chsF p L))->H' L=some (.lst [.ref q,.ref t])->H' t=some (.tup [.int (a - d),.int (b - e),.int (c - f)])->Q .non H'
theorem SqT.updI {K:W.Frag} {H:Hp} {a x C dx:Addr} {xs:List V} {fs:List (Str×V)} {o:HO} (h:SqT K H a xs) (e:H x=some (.ins C dx fs)):SqT K (L2.upd H x o) a xs:=by
 rcases h with (h | ⟨u,h⟩) | h
 ·exact .inl (.inl (by rw [upd_ne (ne_of h e (fun z=>nomatch z))];exact h))
 ·exact .inl (.inr ⟨u,by rw [upd_ne (ne_of h e (fun z=>nomatch z))];exact h⟩)
 ·exact .inr h
theorem ok_Choose___init__ {P:Program} {w:World} {K:W.Frag} {mg:Str->Option Value} {base:Heap} (T:Tx K mg):FnOk P w K mg base CX0 2 T.a_Choose___init__ T.fd_Choose___init__ ["self","upper","lower"] (spCInit K T.c_Choose):=by
 refine T.F_Choose___init__.ok sc_Choose___init__ (fun vs H Q E h=>?_) (fun cdv A outer s H vs Q E hr h=>?_)
 ·obtain⟨x,dx,p,q,a,b,c,d,e,f,rfl,_⟩:=h
  rfl
 obtain⟨x,dx,p,q,a,b,c,d,e,f,rfl,hx,hp,hq,z⟩:=h
 refine⟨_,((pss_cons (ps_fld (pv 0) (pv 1) rfl)
  (pss_one (ps_fld (pv 0) (pe_call (FnOk.mono (ok_low_forms T) (by decide)) hr rfl T.m_low_forms T.F_low_forms.kp T.b_low_forms .nil pass0 (pa_cons (pv 1) (pa_cons (pv 2) pa_nil))) rfl)))),?_⟩
 k_units
 refine⟨T.c_Choose,dx,[],hx,T.cl_Choose,T.na_Choose_above,by decide,?_⟩
 have ex1:upd H x (.ins T.c_Choose dx (putF "above" (.ref p) [])) x=some (.ins T.c_Choose dx [("above",.ref p)]):=upd_same
 have hp1:=SqT.updI (o:=.ins T.c_Choose dx (putF "above" (.ref p) [])) hp hx
 have hq1:=SqT.updI (o:=.ins T.c_Choose dx (putF "above" (.ref p) [])) hq hx
 have k1:∀y o,y≠x->H y=some o->upd H x (.ins T.c_Choose dx (putF "above" (.ref p) [])) y=some o:=fun y o hy e=>by rw [upd_ne hy];exact e
 have n1:∀y,upd H x (.ins T.c_Choose dx (putF "above" (.ref p) [])) y=none->H y=none:=fun y e=>by
  by_cases hy:y=x
  ·rw [hy,upd_same] at e;cases e
  ·rw [upd_ne hy] at e;exact e
 generalize upd H x (.ins T.c_Choose dx (putF "above" (.ref p) []))=G at ex1 hp1 hq1 k1 n1 ⊢
 refine⟨p,q,a,b,c,d,e,f,rfl,hp1,hq1,fun L t H1 s1 nL nt eL et=>?_⟩
 refine⟨T.c_Choose,dx,_,s1 _ _ ex1,T.cl_Choose,T.na_Choose_lows,by show 1 < 1000;decide,?_⟩
 have pf:putF "lows" (.ref L) [("above",V.ref p)]=chsF p L:=rfl
 rw [pf]
 have nLx:L≠x:=fun hz=>by rw [hz,ex1] at nL;cases nL
 have ntx:t≠x:=fun hz=>by rw [hz,ex1] at nt;cases nt
 exact z L t _ (fun y o hy e=>by rw [upd_ne hy];exact s1 _ _ (k1 y o hy e)) (n1 _ nL) (n1 _ nt) upd_same (by rw [upd_ne nLx];exact eL) (by rw [upd_ne ntx];exact et)
inductive Prt where
 | cho (h l:Int×Int×Int)
 | wei (f:Int×Int×Int)
 | pow (f:Int×Int)
 | gro (f:Int×Int)
def subF (h l:Int×Int×Int):Int×Int×Int:=(h.1 - l.1,h.2.1 - l.2.1,h.2.2 - l.2.2)
def ChoOk (h l:Int×Int×Int):Prop:=(0<=h.1∧h.1<=3∧0<=h.2.1∧h.2.1<=3∧0<=h.2.2∧h.2.2<=9)∧(-3<=l.1∧l.1<=3∧-3<=l.2.1∧l.2.1<=3∧-9<=l.2.2∧l.2.2<=9)∧¬(l.1=0∧l.2.1 < 0)∧¬(h.1 - l.1=0∧h.2.1 - l.2.1 < 0)
def NB (n:Int):Prop:=n.natAbs < 10 ^ 60
def PrtOk:Prt->Prop
 | .cho h l=>ChoOk h l
 | .wei f=>NB f.1∧NB f.2.1∧NB f.2.2
 | .pow f=>Frc f∧f.1≠0∧NB f.1∧NB f.2
 | .gro f=>Frc f∧f.1≠0∧NB f.1∧NB f.2
theorem nb_small {n:Int} (h:n.natAbs<=9):NB n:=Nat.lt_of_le_of_lt h (by decide +kernel)
theorem nb_bd {n:Int} {k:Nat} (h:Bd k n) (hk:k<=190):NB n:=Nat.lt_of_lt_of_le h (Nat.le_trans (Nat.pow_le_pow_right (by decide) hk) (by decide +kernel))
theorem cl_zip3 {K:W.Frag} {a b c:Addr} {xs ys zs:List V} {fv:List (Nat×Str)} {te:TE} {Q:VK} {σ:L2.St} {H1:Hp} {D:Addr} (Pv:Nat->Hp->Prop) (ly:ys.length=xs.length) (lz:zs.length=xs.length) (h0:Pv 0 (L2.upd H1 D (.lst []))) (hl:∀i H,Pv i H->SqT K H a xs∧SqT K H b ys∧SqT K H c zs)
  (hs:∀i v1 v2 v3 p H,xs[i]?=some v1->ys[i]?=some v2->zs[i]?=some v3->Pv i H->H p=none->te (bst3 fv σ (some v1) (some v2) (some v3)) (L2.upd H p (.tup [v1,v2,v3])) fun y H2=>∃us,H2 D=some (.lst us)∧us.length < sizeLine∧Pv (i+1) (L2.upd H2 D (.lst (us++[y]))))
  (hd:∀H,Pv xs.length H->Q (.ref D) H):CLoop3 K (Itz3 K a b c) fv te Q σ H1 D:=by
 refine⟨fun i m H=>m=xs.length - i∧i<=xs.length∧Pv i H,⟨_,rfl,Nat.zero_le _,h0⟩,?_⟩
 rintro i m H ⟨rfl,hi,p⟩
 obtain⟨q1,q2,q3⟩:=hl i H p
 by_cases hlt:i < xs.length
 ·refine .inr ⟨⟨xs,ys,zs,xs[i],ys[i],zs[i],q1,q2,q3,List.getElem?_eq_getElem hlt,List.getElem?_eq_getElem (by omega),List.getElem?_eq_getElem (by omega)⟩,Pv (i+1),fun H' p'=>⟨xs.length - (i+1),by omega,rfl,hlt,p'⟩,fun v H' y=>?_⟩
  obtain⟨pa,x1,x2,x3,hn,e1,e2,y1,y2,y3⟩:=y
  subst e1 e2
  exact⟨pa,x1,x2,x3,rfl,.inl (.inl upd_same),hs i x1 x2 x3 pa H (y1 xs q1) (y2 ys q2) (y3 zs q3) p hn⟩
 ·have e:i=xs.length:=by omega
  refine .inl ⟨⟨xs,q1,by omega⟩,?_⟩
  rw [e] at p
  exact hd H p
def wIn (f g:Int×Int×Int):List Bool:=[decide (g.1<=f.1∧f.1<=3),decide (g.2.1<=f.2.1∧f.2.1<=3),decide (g.2.2<=f.2.2∧f.2.2<=9)]
def spWithin (K:W.Frag):Sp:=fun vs H Q _=>∃(p q:Addr) (f g:Int×Int×Int),vs=[.ref p,.ref q]∧SqT K H p [.int f.1,.int f.2.1,.int f.2.2]∧SqT K H q [.int g.1,.int g.2.1,.int g.2.2]∧∀H',Same H H'->Q (.bl ((wIn f g).all id)) H'
theorem ok_within {P:Program} {w:World} {K:W.Frag} {mg:Str->Option Value} {base:Heap} (T:Tx K mg):FnOk P w K mg base CX0 1 T.a_within T.fd_within ["form","least"] (spWithin K):=by
 refine T.F_within.ok sc_within (fun vs H Q E h=>?_) (fun cdv A outer s H vs Q E hr h=>?_)
 ·obtain⟨p,q,f,g,rfl,_⟩:=h
  rfl
 obtain⟨p,q,f,g,rfl,hp,hq,k⟩:=h
 refine⟨_,((pss_one (ps_ret (pe_callB (call_allL rfl) rfl T.z_all boot_all (pa_cons (pe_lcomp3 rfl (blkok3 rfl sub_nil fv_nil2) (pi_zip3 rfl T.z_zip (pa_cons (pv 1) (pa_cons (pv 0) (pa_cons (pe_glob (v:=.ref T.gt_GREATEST.1) rfl T.gt_GREATEST.2.1 rfl) pa_nil)))) (fun _ _ _ _=>(pe_chain op_le op_le (pv 0) (pv 1) (pv 2)))) pa_nil))))),?_⟩
 k_units
 refine⟨_,hq,_,hp,_,T.gt_GREATEST.2.2 H,fun D nD=>?_⟩
 obtain⟨Pc,hPc⟩:∃Pc:Nat->Hp->Prop,∀j Hx,Pc j Hx↔Hx D=some (.lst (((wIn f g).take j).map V.bl))∧Same H Hx:=⟨_,fun _ _=>Iff.rfl⟩
 refine cl_zip3 (xs:=[V.int g.1,V.int g.2.1,V.int g.2.2]) (ys:=[V.int f.1,V.int f.2.1,V.int f.2.2]) (zs:=[V.int 3,V.int 3,V.int 9]) Pc rfl rfl ((hPc _ _).mpr ⟨upd_same,same_upd nD _⟩) (fun i Hx y=>by obtain⟨_,y⟩:=(hPc i Hx).mp y;exact⟨y.seqT hq,y.seqT hp,T.gt_GREATEST.2.2 Hx⟩) ?_ ?_
 ·intro i v1 v2 v3 r Hx e1 e2 e3 hc nr
  obtain⟨k1,k2⟩:=(hPc _ _).mp hc
  obtain⟨x1,x2,x3,rfl,rfl,rfl,hw,hi⟩:∃x1 x2 x3:Int,v1=.int x1∧v2=.int x2∧v3=.int x3∧(wIn f g).take (i+1)=(wIn f g).take i++[decide (x1<=x2∧x2<=x3)]∧i < 3:=by
   match i,e1,e2,e3 with
   | 0,e1,e2,e3=>exact⟨_,_,_,(Option.some.inj e1).symm,(Option.some.inj e2).symm,(Option.some.inj e3).symm,rfl,by decide⟩
   | 1,e1,e2,e3=>exact⟨_,_,_,(Option.some.inj e1).symm,(Option.some.inj e2).symm,(Option.some.inj e3).symm,rfl,by decide⟩
   | 2,e1,e2,e3=>exact⟨_,_,_,(Option.some.inj e1).symm,(Option.some.inj e2).symm,(Option.some.inj e3).symm,rfl,by decide⟩
   | j+3,e1,e2,e3=>simp at e1
  (iterate 3 (k_units;(try simp only [bst3]));k_units)
  have u:=same_upd nr (.tup [V.int x1,V.int x2,V.int x3])
  refine ite2 (fun l1=>⟨_,u _ _ k1,?_,(hPc _ _).mpr ⟨?_,(k2.trans u).more nD⟩⟩) (fun l1=>⟨_,u _ _ k1,?_,(hPc _ _).mpr ⟨?_,(k2.trans u).more nD⟩⟩)
  ·rw [List.length_map,List.length_take];exact small1000 (by omega)
  ·rw [upd_same,hw,List.map_append,show decide (x1<=x2∧x2<=x3)=decide (x2<=x3) by simp [l1]];rfl
  ·rw [List.length_map,List.length_take];exact small1000 (by omega)
  ·rw [upd_same,hw,List.map_append,show decide (x1<=x2∧x2<=x3)=false by simp [l1]];rfl
 intro Hx hc
 obtain⟨k1,k2⟩:=(hPc _ _).mp hc
 exact⟨D,rfl,_,SqL.of k1,k Hx k2⟩
theorem cho_iff (h l:Int×Int×Int):ChoOk h l↔(wIn h (0,0,0)).all id=true∧(wIn l (-3,-3,-9)).all id=true∧¬(l.1=0∧l.2.1 < 0)∧¬(h.1 - l.1=0∧h.2.1 - l.2.1 < 0):=by
 unfold ChoOk wIn
 simp only [List.all_cons,List.all_nil,id,Bool.and_true,Bool.and_eq_true,decide_eq_true_eq]
 constructor
 ·rintro ⟨⟨a1,a2,a3,a4,a5,a6⟩,⟨b1,b2,b3,b4,b5,b6⟩,f1,f2⟩
  exact⟨⟨⟨a1,a2⟩,⟨a3,a4⟩,a5,a6⟩,⟨⟨b1,b2⟩,⟨b3,b4⟩,b5,b6⟩,f1,f2⟩
 ·rintro ⟨⟨⟨a1,a2⟩,⟨a3,a4⟩,a5,a6⟩,⟨⟨b1,b2⟩,⟨b3,b4⟩,b5,b6⟩,f1,f2⟩
  exact⟨⟨a1,a2,a3,a4,a5,a6⟩,⟨b1,b2,b3,b4,b5,b6⟩,f1,f2⟩
def spChk (K:W.Frag) (C:Addr):Sp:=fun vs H Q E=>∃(p q:Addr) (h l:Int×Int×Int),vs=[.ref p,.ref q]∧SqT K H p [.int h.1,.int h.2.1,.int h.2.2]∧SqT K H q [.int l.1,.int l.2.1,.int l.2.2]∧(ChoOk h l->∀H',Same H H'->Q .non H')∧(¬ChoOk h l->∀H',Same H H'->E (.ref C) none H')
theorem ok_check_choose {P:Program} {w:World} {K:W.Frag} {mg:Str->Option Value} {base:Heap} (T:Tx K mg):FnOk P w K mg base (CXE P w) 2 T.a_check_choose T.fd_check_choose ["upper","lower"] (spChk K T.c_NoTerm):=by
 refine T.F_check_choose.okE sc_check_choose (fun vs H Q E h=>?_) (fun cdv A outer s H vs Q E hr h=>?_)
 ·obtain⟨p,q,h,l,rfl,_⟩:=h
  rfl
 obtain⟨p,q,h,l,rfl,hp,hq,kq,ke⟩:=h
 rw [cho_iff] at kq ke
 refine⟨_,((pss_cons (ps_if (PT.nox (PW.pt (pw_or (pt_not (pt_val (pe_call (FnOk.mono (ok_within T) (by decide)) hr rfl T.m_within T.F_within.kp T.b_within .nil pass0 (pa_cons (pv 0) (pa_cons (pe_glob (v:=.ref T.gt_UPPER_LEAST.1) rfl T.gt_UPPER_LEAST.2.1 rfl) pa_nil))))) (pw_or1 (pt_not (pt_val (pe_call (FnOk.mono (ok_within T) (by decide)) hr rfl T.m_within T.F_within.kp T.b_within .nil pass0 (pa_cons (pv 1) (pa_cons (pe_glob (v:=.ref T.gt_LOWER_LEAST.1) rfl T.gt_LOWER_LEAST.2.1 rfl) pa_nil))))))))) (pss_one (ps_raise rfl throwE rfl T.mc_NoTerm T.xc_NoTerm (pa_cons pe_str pa_nil))) pss_nil)
  (pss_one (ps_for PassesOwn.leaving rfl (pi_list (pe_call (FnOk.mono (ok_low_forms T) (by decide)) hr rfl T.m_low_forms T.F_low_forms.kp T.b_low_forms .nil pass0 (pa_cons (pv 0) (pa_cons (pv 1) pa_nil)))) (pg_name (i:=2) sc_check_choose.nd rfl (Or.inl rfl)) (pss_one (ps_if (PT.nox (PW.pt (pw_and (pt_cmpR op_eq (pe_ix ix_tup (pv 2) pe_int (fun _ _=>rfl)) pe_int (nomark _)) (pw_and1 (pt_cmpR op_lt (pe_ix ix_tup (pv 2) pe_int (fun _ _=>rfl)) pe_int (nomark _)))))) (pss_one (ps_raise rfl throwE rfl T.mc_NoTerm T.xc_NoTerm (pa_cons pe_str pa_nil))) pss_nil)))))),?_⟩
 k_units
 refine⟨p,T.gt_UPPER_LEAST.1,h,(0,0,0),rfl,hp,T.gt_UPPER_LEAST.2.2 H,fun H1 s1=>⟨_,rfl,?_⟩⟩
 cases hb:(wIn h (0,0,0)).all id with
 | false=>
  rw [if_pos rfl]
  exact⟨by decide,ke (fun z=>by rw [hb] at z;exact absurd z.1 (by decide)) H1 s1⟩
 | true=>
 rw [if_neg (by decide)]
 refine⟨q,T.gt_LOWER_LEAST.1,l,(-3,-3,-9),rfl,s1.seqT hq,T.gt_LOWER_LEAST.2.2 H1,fun H2 s2=>⟨_,rfl,?_⟩⟩
 have s12:=s1.trans s2
 cases hb2:(wIn l (-3,-3,-9)).all id with
 | false=>
  rw [if_pos rfl]
  exact⟨by decide,ke (fun z=>by rw [hb2] at z;exact absurd z.2.1 (by decide)) H2 s12⟩
 | true=>
 rw [if_neg (by decide)]
 refine⟨p,q,h.1,h.2.1,h.2.2,l.1,l.2.1,l.2.2,rfl,s12.seqT hp,s12.seqT hq,fun L t H3 s3 nL nt eL et=>⟨L,rfl,⟨_,SqL.of eL⟩,?_⟩⟩
 have s13:=s12.trans s3
 obtain⟨Pv,hPv⟩:∃Pv:Nat->L2.St->Hp->Prop,∀i σ H',Pv i σ H'↔∃r:Option V,σ=[some (V.ref p),some (V.ref q),r]∧H'=H3∧(1<=i->¬(l.1=0∧l.2.1 < 0))∧(2<=i->¬(h.1 - l.1=0∧h.2.1 - l.2.1 < 0)):=⟨_,fun _ _ _=>Iff.rfl⟩
 refine lp_list (xs:=[V.ref q,V.ref t]) Pv ((hPv _ _ _).mpr ⟨none,rfl,rfl,fun z=>by omega,fun z=>by omega⟩) (fun i σ H' _ z=>by obtain⟨_,_,rfl,_⟩:=(hPv _ _ _).mp z;exact SqL.of eL) ?_ ?_
 ·intro i v σ H' hv hp'
  obtain⟨r,rfl,rfl,c1,c2⟩:=(hPv _ _ _).mp hp'
  obtain⟨u,f,rfl,eu,nf,no⟩:∃(u:Addr) (f:Int×Int×Int),v=V.ref u∧SqT K H' u [.int f.1,.int f.2.1,.int f.2.2]∧(¬(f.1=0∧f.2.1 < 0)->(1<=i+1->¬(l.1=0∧l.2.1 < 0))∧(2<=i+1->¬(h.1 - l.1=0∧h.2.1 - l.2.1 < 0)))∧(f.1=0∧f.2.1 < 0->¬(¬(l.1=0∧l.2.1 < 0)∧¬(h.1 - l.1=0∧h.2.1 - l.2.1 < 0))):=by
   match i,hv,c1,c2 with
   | 0,hv,c1,c2=>exact⟨q,l,(Option.some.inj hv).symm,s13.seqT hq,fun z=>⟨fun _=>z,fun z=>by omega⟩,fun z y=>y.1 z⟩
   | 1,hv,c1,c2=>exact⟨t,subF h l,(Option.some.inj hv).symm,SqT.of et,fun z=>⟨fun _=>c1 (by decide),fun _=>z⟩,fun z y=>y.2 z⟩
   | j+2,hv,c1,c2=>simp at hv
  k_units
  refine⟨_,eu,_,rfl,?_⟩
  k_units
  refine ite2 (fun z=>?_) (fun z=>(hPv _ _ _).mpr ⟨_,rfl,rfl,nf fun y=>z y.1⟩)
  refine⟨_,eu,_,rfl,?_⟩
  k_units
  exact ite2 (fun z2=>⟨by decide,ke (fun y=>no ⟨z,z2⟩ y.2.2) _ s13⟩) (fun z2=>(hPv _ _ _).mpr ⟨_,rfl,rfl,nf fun y=>z2 y.2⟩)
 ·intro σ H' hp'
  obtain⟨r,rfl,rfl,c1,c2⟩:=(hPv _ _ _).mp hp'
  exact kq ⟨hb,hb2,c1 (by simp),c2 (by simp)⟩ H' s13
def spChkB (K:W.Frag) (C:Addr):Sp:=fun vs H Q E=>∃(p:Addr) (f:Int×Int),vs=[.ref p]∧SqT K H p [.int f.1,.int f.2]∧(f.1≠0->Q .non H)∧(f.1=0->E (.ref C) none H)
theorem ok_check_base {P:Program} {w:World} {K:W.Frag} {mg:Str->Option Value} {base:Heap} (T:Tx K mg):FnOk P w K mg base (CXE P w) 1 T.a_check_base T.fd_check_base ["fraction"] (spChkB K T.c_NoTerm):=by
 refine T.F_check_base.okE sc_check_base (fun vs H Q E h=>?_) (fun cdv A outer s H vs Q E hr h=>?_)
 ·obtain⟨p,f,rfl,_⟩:=h
  rfl
 obtain⟨p,f,rfl,hp,k,ke⟩:=h
 refine⟨_,((pss_one (ps_if (PT.nox (pt_cmpR op_eq (pe_ix ix_tup (pv 0) pe_int (fun _ _=>rfl)) pe_int (nomark _))) (pss_one (ps_raise rfl throwE rfl T.mc_NoTerm T.xc_NoTerm (pa_cons pe_str pa_nil))) pss_nil))),?_⟩
 k_units
 refine⟨_,hp,_,rfl,?_⟩
 k_units
 exact ite2 (fun z=>⟨by decide,ke z⟩) (fun z=>k z)
abbrev T3 (f:Int×Int×Int):HO:=.tup [.int f.1,.int f.2.1,.int f.2.2]
abbrev T2 (f:Int×Int):HO:=.tup [.int f.1,.int f.2]
def PtAt (H:Hp) (r:Addr):Prt->Prop
 | .cho h l=>∃a b,H r=some (.tup [.str (Str.ofString "choose"),.ref a,.ref b])∧H a=some (T3 h)∧H b=some (T3 l)
 | .wei f=>∃a,H r=some (.tup [.str (Str.ofString "weight"),.ref a])∧H a=some (T3 f)
 | .pow f=>∃a,H r=some (.tup [.str (Str.ofString "power"),.ref a])∧H a=some (T2 f)
 | .gro f=>∃a,H r=some (.tup [.str (Str.ofString "growth"),.ref a])∧H a=some (T2 f)
def PcAt {K:W.Frag} {mg:Str->Option Value} (T:Tx K mg) (H0 H:Hp) (r:Addr):Prt->Prop
 | .cho h l=>∃dx a L b t,H r=some (.ins T.c_Choose dx (chsF a L))∧H a=some (T3 h)∧H0 L=none∧H L=some (.lst [.ref b,.ref t])∧H b=some (T3 l)∧H t=some (T3 (subF h l))
 | .wei f=>∃dx a,H r=some (.ins T.c_Weight dx (wgtF a))∧H a=some (T3 f)
 | .pow f=>∃dx a,H r=some (.ins T.c_Power dx (powF a))∧H a=some (T2 f)
 | .gro f=>∃dx a,H r=some (.ins T.c_Growth dx (powF a))∧H a=some (T2 f)
inductive Nice (H0:Hp) (a:Addr):HO->Prop where
 | lst {xs:List V} (h:H0 a=none):Nice H0 a (.lst xs)
 | tup {xs:List V}:Nice H0 a (.tup xs)
 | ins {C dx:Addr} {fs:List (Str×V)} (h:fs.lookup (Str.ofString "parts")=none):Nice H0 a (.ins C dx fs)
def Kp (H0 H H':Hp):Prop:=∀a o,H a=some o->Nice H0 a o->H' a=some o
theorem kpD {H0 H H1:Hp} {D:Addr} {xs ys:List V} (s:Same H H1) (h0:H0 D≠none) (h:H D=some (.lst xs)):Kp H0 H (L2.upd H1 D (.lst ys)):=fun a o e n=>by
 have:a≠D:=fun z=>by
  subst z
  rw [h] at e
  cases e
  cases n with
  | lst z=>exact h0 z
 rw [upd_ne this];exact s _ _ e
theorem PtAt.kt {H H':Hp} {r:Addr} {p:Prt} (h:PtAt H r p) (k:∀a xs,H a=some (.tup xs)->H' a=some (.tup xs)):PtAt H' r p:=by
 match p,h with
 | .cho f l,⟨a,b,h1,h2,h3⟩=>exact⟨a,b,k _ _ h1,k _ _ h2,k _ _ h3⟩
 | .wei f,⟨a,h1,h2⟩=>exact⟨a,k _ _ h1,k _ _ h2⟩
 | .pow f,⟨a,h1,h2⟩=>exact⟨a,k _ _ h1,k _ _ h2⟩
 | .gro f,⟨a,h1,h2⟩=>exact⟨a,k _ _ h1,k _ _ h2⟩
theorem PtAt.on {H H':Hp} {r:Addr} {p:Prt} (h:PtAt H r p) (s:Same H H'):PtAt H' r p:=h.kt fun a xs e=>s a _ e
theorem PcAt.kp {K:W.Frag} {mg:Str->Option Value} {T:Tx K mg} {H0 H H':Hp} {r:Addr} {p:Prt} (h:PcAt T H0 H r p) (k:Kp H0 H H'):PcAt T H0 H' r p:=by
 match p,h with
 | .cho f l,⟨dx,a,L,b,t,h1,h2,h3,h4,h5,h6⟩=>exact⟨dx,a,L,b,t,k _ _ h1 (.ins rfl),k _ _ h2 .tup,h3,k _ _ h4 (.lst h3),k _ _ h5 .tup,k _ _ h6 .tup⟩
 | .wei f,⟨dx,a,h1,h2⟩=>exact⟨dx,a,k _ _ h1 (.ins rfl),k _ _ h2 .tup⟩
 | .pow f,⟨dx,a,h1,h2⟩=>exact⟨dx,a,k _ _ h1 (.ins rfl),k _ _ h2 .tup⟩
 | .gro f,⟨dx,a,h1,h2⟩=>exact⟨dx,a,k _ _ h1 (.ins rfl),k _ _ h2 .tup⟩
theorem PcAt.fr {K:W.Frag} {mg:Str->Option Value} {T:Tx K mg} {H00 H0 H:Hp} {r:Addr} {p:Prt} (h:PcAt T H0 H r p) (s:∀y,H0 y=none->H00 y=none):PcAt T H00 H r p:=by
 match p,h with
 | .cho f l,⟨dx,a,L,b,t,h1,h2,h3,h4⟩=>exact⟨dx,a,L,b,t,h1,h2,s _ h3,h4⟩
 | .wei f,h=>exact h
 | .pow f,h=>exact h
 | .gro f,h=>exact h
theorem PcAt.from {K:W.Frag} {mg:Str->Option Value} {T:Tx K mg} {H00 H0 H:Hp} {r:Addr} {p:Prt} (h:PcAt T H0 H r p) (s:Same H00 H0):PcAt T H00 H r p:=h.fr fun y e=>s.free e
def mkP {K:W.Frag} {mg:Str->Option Value} (T:Tx K mg) (H:Hp) (Q:VK) (p:Prt):Prop:=∀(x:Addr) (H':Hp),Same H H'->PcAt T H H' x p->Q (.ref x) H'
theorem mkP.on {K:W.Frag} {mg:Str->Option Value} {T:Tx K mg} {H H1:Hp} {Q:VK} {p:Prt} (k:mkP T H Q p) (s:Same H H1):mkP T H1 Q p:=fun x H' s' h=>k x H' (s.trans s') (h.from s)
theorem same_new {H:Hp} {x dx:Addr} {o u:HO} (hx:H x=none) (hd:H dx=none):Same H (L2.upd (L2.upd H dx u) x o):=fun b v e=>by rw [upd_ne (ne_of_none e hx),upd_ne (ne_of_none e hd)];exact e
theorem mk_cho {K:W.Frag} {mg:Str->Option Value} {T:Tx K mg} {H:Hp} {Q:VK} {E:XK} {a b:Addr} {h l:Int×Int×Int} (ha:H a=some (T3 h)) (hb:H b=some (T3 l)) (k:mkP T H Q (.cho h l)) (x dx:Addr) (hx:H x=none) (hd:H dx=none) (_:dx≠x):
  spCInit K T.c_Choose [.ref x,.ref a,.ref b] (L2.upd (L2.upd H dx (.own x)) x (.ins T.c_Choose dx [])) (fun v H2=>v=V.non∧Q (.ref x) H2) E:=by
 have s1:Same H (L2.upd (L2.upd H dx (.own x)) x (.ins T.c_Choose dx [])):=same_new hx hd
 refine⟨x,dx,a,b,h.1,h.2.1,h.2.2,l.1,l.2.1,l.2.2,rfl,upd_same,SqT.of (s1 _ _ ha),SqT.of (s1 _ _ hb),fun L t H' s2 nL nt ex eL et=>⟨rfl,?_⟩⟩
 have s3:Same H H':=fun y o e=>s2 y o (ne_of_none e hx) (s1 y o e)
 exact k x H' s3 ⟨dx,a,L,b,t,ex,s3 _ _ ha,s1.free nL,eL,s3 _ _ hb,et⟩
theorem mk_wei {K:W.Frag} {mg:Str->Option Value} {T:Tx K mg} {H:Hp} {Q:VK} {E:XK} {a:Addr} {f:Int×Int×Int} (ha:H a=some (T3 f)) (k:mkP T H Q (.wei f)) (x dx:Addr) (hx:H x=none) (hd:H dx=none) (_:dx≠x):
  spWInit T.c_Weight [.ref x,.ref a] (L2.upd (L2.upd H dx (.own x)) x (.ins T.c_Weight dx [])) (fun v H2=>v=V.non∧Q (.ref x) H2) E:=by
 have s1:Same H (L2.upd (L2.upd H dx (.own x)) x (.ins T.c_Weight dx [])):=same_new hx hd
 have s3:Same H (L2.upd (L2.upd (L2.upd H dx (.own x)) x (.ins T.c_Weight dx [])) x (.ins T.c_Weight dx (wgtF a))):=fun y o e=>by rw [upd_ne (ne_of_none e hx)];exact s1 y o e
 exact⟨x,dx,a,rfl,upd_same,rfl,k x _ s3 ⟨dx,a,upd_same,s3 _ _ ha⟩⟩
theorem mk_pow {K:W.Frag} {mg:Str->Option Value} {T:Tx K mg} {H:Hp} {Q:VK} {E:XK} {a:Addr} {f:Int×Int} (ha:H a=some (T2 f)) (k:mkP T H Q (.pow f)) (x dx:Addr) (hx:H x=none) (hd:H dx=none) (_:dx≠x):
  spPInit T.c_Power [.ref x,.ref a] (L2.upd (L2.upd H dx (.own x)) x (.ins T.c_Power dx [])) (fun v H2=>v=V.non∧Q (.ref x) H2) E:=by
 have s1:Same H (L2.upd (L2.upd H dx (.own x)) x (.ins T.c_Power dx [])):=same_new hx hd
 have s3:Same H (L2.upd (L2.upd (L2.upd H dx (.own x)) x (.ins T.c_Power dx [])) x (.ins T.c_Power dx (powF a))):=fun y o e=>by rw [upd_ne (ne_of_none e hx)];exact s1 y o e
 exact⟨x,dx,a,rfl,upd_same,rfl,k x _ s3 ⟨dx,a,upd_same,s3 _ _ ha⟩⟩
theorem mk_gro {K:W.Frag} {mg:Str->Option Value} {T:Tx K mg} {H:Hp} {Q:VK} {E:XK} {a:Addr} {f:Int×Int} (ha:H a=some (T2 f)) (k:mkP T H Q (.gro f)) (x dx:Addr) (hx:H x=none) (hd:H dx=none) (_:dx≠x):
  spPInit T.c_Growth [.ref x,.ref a] (L2.upd (L2.upd H dx (.own x)) x (.ins T.c_Growth dx [])) (fun v H2=>v=V.non∧Q (.ref x) H2) E:=by
 have s1:Same H (L2.upd (L2.upd H dx (.own x)) x (.ins T.c_Growth dx [])):=same_new hx hd
 have s3:Same H (L2.upd (L2.upd (L2.upd H dx (.own x)) x (.ins T.c_Growth dx [])) x (.ins T.c_Growth dx (powF a))):=fun y o e=>by rw [upd_ne (ne_of_none e hx)];exact s1 y o e
 exact⟨x,dx,a,rfl,upd_same,rfl,k x _ s3 ⟨dx,a,upd_same,s3 _ _ ha⟩⟩
structure Pts (H:Hp) (rs:List Addr) (ps:List Prt):Prop where
 len:rs.length=ps.length
 get:∀(i:Nat) (r:Addr) (p:Prt),rs[i]?=some r->ps[i]?=some p->PtAt H r p
structure Pcs {K:W.Frag} {mg:Str->Option Value} (T:Tx K mg) (H0 H:Hp) (qs:List Addr) (ps:List Prt):Prop where
 len:qs.length=ps.length
 get:∀(i:Nat) (q:Addr) (p:Prt),qs[i]?=some q->ps[i]?=some p->PcAt T H0 H q p
theorem Pts.kt {H H':Hp} {rs:List Addr} {ps:List Prt} (h:Pts H rs ps) (k:∀a xs,H a=some (.tup xs)->H' a=some (.tup xs)):Pts H' rs ps:=⟨h.len,fun i r p e1 e2=>(h.get i r p e1 e2).kt k⟩
theorem Pts.on {H H':Hp} {rs:List Addr} {ps:List Prt} (h:Pts H rs ps) (s:Same H H'):Pts H' rs ps:=h.kt fun a xs e=>s a _ e
theorem Pcs.kp {K:W.Frag} {mg:Str->Option Value} {T:Tx K mg} {H0 H H':Hp} {qs:List Addr} {ps:List Prt} (h:Pcs T H0 H qs ps) (k:Kp H0 H H'):Pcs T H0 H' qs ps:=⟨h.len,fun i r p e1 e2=>(h.get i r p e1 e2).kp k⟩
theorem Pcs.from {K:W.Frag} {mg:Str->Option Value} {T:Tx K mg} {H00 H0 H:Hp} {qs:List Addr} {ps:List Prt} (h:Pcs T H0 H qs ps) (s:∀y,H0 y=none->H00 y=none):Pcs T H00 H qs ps:=⟨h.len,fun i r p e1 e2=>(h.get i r p e1 e2).fr s⟩
theorem Pcs.snoc {K:W.Frag} {mg:Str->Option Value} {T:Tx K mg} {H0 H:Hp} {qs:List Addr} {ps:List Prt} {q:Addr} {p:Prt} (h:Pcs T H0 H qs ps) (a:PcAt T H0 H q p):Pcs T H0 H (qs++[q]) (ps++[p]):=by
 refine⟨by simp [h.len],fun i r p' e1 e2=>?_⟩
 by_cases hi:i < qs.length
 ·rw [List.getElem?_append_left hi] at e1
  rw [List.getElem?_append_left (by rw [← h.len];exact hi)] at e2
  exact h.get i r p' e1 e2
 ·rw [List.getElem?_append_right (by omega)] at e1
  rw [List.getElem?_append_right (by have:=h.len;omega),← h.len] at e2
  obtain⟨j,hj⟩:∃j,i - qs.length=j:=⟨_,rfl⟩
  rw [hj] at e1 e2
  cases j with
  | zero=>cases Option.some.inj e1;cases Option.some.inj e2;exact a
  | succ j=>simp at e1
theorem Pts.snoc {H:Hp} {rs:List Addr} {ps:List Prt} {r:Addr} {p:Prt} (h:Pts H rs ps) (a:PtAt H r p):Pts H (rs++[r]) (ps++[p]):=by
 refine⟨by simp [h.len],fun i r' p' e1 e2=>?_⟩
 by_cases hi:i < rs.length
 ·rw [List.getElem?_append_left hi] at e1
  rw [List.getElem?_append_left (by rw [← h.len];exact hi)] at e2
  exact h.get i r' p' e1 e2
 ·rw [List.getElem?_append_right (by omega)] at e1
  rw [List.getElem?_append_right (by have:=h.len;omega),← h.len] at e2
  obtain⟨j,hj⟩:∃j,i - rs.length=j:=⟨_,rfl⟩
  rw [hj] at e1 e2
  cases j with
  | zero=>cases Option.some.inj e1;cases Option.some.inj e2;exact a
  | succ j=>simp at e1
def trmF (P1 P2:Addr):List (Str×V):=[(Str.ofString "parts",.ref P1),(Str.ofString "pieces",.ref P2)]
def TermAt {K:W.Frag} {mg:Str->Option Value} (T:Tx K mg) (H0 H:Hp) (x:Addr) (rs:List Addr) (ps:List Prt):Prop:=∃dx P1 P2 qs,H x=some (.ins T.c_Term dx (trmF P1 P2))∧H0 P1=none∧H P1=some (.lst (rs.map V.ref))∧H0 P2=none∧H P2=some (.lst (qs.map V.ref))∧Pcs T H0 H qs ps
inductive Gp where
 | pt (p:Prt)
 | wd (k:Nat) (b:Bool)
def wdS (k:Nat):Str:=([Str.ofString "",Str.ofString "chose",Str.ofString "weights",Str.ofString "power ",Str.ofString "Growth",Str.ofString "sum",Str.ofString "floor"]).getD k (Str.ofString "")
def GAt (H:Hp) (r:Addr):Gp->Prop
 | .pt p=>PtAt H r p
 | .wd k true=>k < 7∧∃a,H r=some (.tup [.str (wdS k),.ref a])∧H a=some (T3 (1,0,0))
 | .wd k false=>k < 7∧∃a,H r=some (.tup [.str (wdS k),.ref a])∧H a=some (T2 (1,2))
def GBad:Gp->Prop
 | .pt (.cho h l)=>¬ChoOk h l
 | .pt (.wei _)=>False
 | .pt (.pow f)=>f.1=0
 | .pt (.gro f)=>f.1=0
 | .wd k _=>k < 7
def GOk:Gp->Prop
 | .pt p=>PrtOk p
 | .wd _ _=>False
theorem wd_ne:∀k < 7,wdS k≠Str.ofString "choose" ∧ wdS k≠Str.ofString "weight" ∧ wdS k≠Str.ofString "power" ∧ wdS k≠Str.ofString "growth" := by decide +kernel
theorem GAt.kt {H H':Hp} {r:Addr} {g:Gp} (h:GAt H r g) (k:∀a xs,H a=some (.tup xs)->H' a=some (.tup xs)):GAt H' r g:=by
 match g,h with
 | .pt p,h=>exact PtAt.kt h k
 | .wd _ true,⟨a0,a,h1,h2⟩=>exact⟨a0,a,k _ _ h1,k _ _ h2⟩
 | .wd _ false,⟨a0,a,h1,h2⟩=>exact⟨a0,a,k _ _ h1,k _ _ h2⟩
theorem GAt.on {H H':Hp} {r:Addr} {g:Gp} (h:GAt H r g) (s:Same H H'):GAt H' r g:=h.kt fun a xs e=>s a _ e
structure Gts (H:Hp) (rs:List Addr) (gs:List Gp):Prop where
 len:rs.length=gs.length
 get:∀(i:Nat) (r:Addr) (g:Gp),rs[i]?=some r->gs[i]?=some g->GAt H r g
theorem Gts.kt {H H':Hp} {rs:List Addr} {gs:List Gp} (h:Gts H rs gs) (k:∀a xs,H a=some (.tup xs)->H' a=some (.tup xs)):Gts H' rs gs:=⟨h.len,fun i r p e1 e2=>(h.get i r p e1 e2).kt k⟩
theorem Pts.g {H:Hp} {rs:List Addr} {ps:List Prt} (h:Pts H rs ps):Gts H rs (ps.map .pt):=⟨by rw [List.length_map];exact h.len,fun i r g e1 e2=>by
 rw [List.getElem?_map] at e2
 obtain⟨p,hp,rfl⟩:=Option.map_eq_some_iff.mp e2
 exact h.get i r p e1 hp⟩
def spPiece {K:W.Frag} {mg:Str->Option Value} (T:Tx K mg):Sp:=fun vs H Q E=>∃(r:Addr) (g:Gp),vs=[.ref r]∧GAt H r g∧((∃p,g=.pt p∧PrtOk p∧mkP T H Q p)∨(GBad g∧∀H',Same H H'->E (.ref T.c_NoTerm) none H'))
theorem ok_piece_of {P:Program} {w:World} {K:W.Frag} {mg:Str->Option Value} {base:Heap} (T:Tx K mg):FnOk P w K mg base (CXE P w) 4 T.a_piece_of T.fd_piece_of ["part"] (spPiece T):=by
 refine T.F_piece_of.okE sc_piece_of (fun vs H Q E h=>?_) (fun cdv A outer s H vs Q E hr h=>?_)
 ·obtain⟨r,g,rfl,_⟩:=h
  rfl
 obtain⟨r,g,rfl,hg,hk⟩:=h
 refine⟨_,((pss_cons (ps_if (PT.nox (pt_cmpR op_eq (pe_ix ix_tup (pv 0) pe_int (fun _ _=>rfl)) pe_str (nomark _))) (pss_cons (ps_expr (pe_call (FnOk.mono (ok_check_choose T) (by decide)) hr rfl T.m_check_choose T.F_check_choose.kp T.b_check_choose .nil passE (pa_cons (pe_ix ix_tup (pv 0) pe_int (fun _ _=>rfl)) (pa_cons (pe_ix ix_tup (pv 0) pe_int (fun _ _=>rfl)) pa_nil))))
  (pss_one (PS.nox (ps_ret (pe_make T.mk_Choose (FnOk.mono (ok_Choose___init__ T) (by decide)) hr rfl T.mc_Choose T.b_Choose___init__ .nil pass0 (pa_cons (pe_ix ix_tup (pv 0) pe_int (fun _ _=>rfl)) (pa_cons (pe_ix ix_tup (pv 0) pe_int (fun _ _=>rfl)) pa_nil))))))) pss_nil)
  (pss_cons (PS.nox (ps_if (pt_cmpR op_eq (pe_ix ix_tup (pv 0) pe_int (fun _ _=>rfl)) pe_str (nomark _)) (pss_one (ps_ret (pe_make T.mk_Weight (FnOk.mono (ok_Weight___init__ T) (by decide)) hr rfl T.mc_Weight T.b_Weight___init__ .nil pass0 (pa_cons (pe_ix ix_tup (pv 0) pe_int (fun _ _=>rfl)) pa_nil)))) pss_nil))
  (pss_cons (ps_if (PT.nox (pt_cmpR op_eq (pe_ix ix_tup (pv 0) pe_int (fun _ _=>rfl)) pe_str (nomark _))) (pss_cons (ps_expr (pe_call (FnOk.mono (ok_check_base T) (by decide)) hr rfl T.m_check_base T.F_check_base.kp T.b_check_base .nil passE (pa_cons (pe_ix ix_tup (pv 0) pe_int (fun _ _=>rfl)) pa_nil)))
  (pss_one (PS.nox (ps_ret (pe_make T.mk_Power (FnOk.mono (ok_Power___init__ T) (by decide)) hr rfl T.mc_Power T.b_Power___init__ .nil pass0 (pa_cons (pe_ix ix_tup (pv 0) pe_int (fun _ _=>rfl)) pa_nil)))))) pss_nil)
  (pss_cons (ps_if (PT.nox (pt_cmpR op_eq (pe_ix ix_tup (pv 0) pe_int (fun _ _=>rfl)) pe_str (nomark _))) (pss_cons (ps_expr (pe_call (FnOk.mono (ok_check_base T) (by decide)) hr rfl T.m_check_base T.F_check_base.kp T.b_check_base .nil passE (pa_cons (pe_ix ix_tup (pv 0) pe_int (fun _ _=>rfl)) pa_nil)))
  (pss_one (PS.nox (ps_ret (pe_make T.mk_Growth (FnOk.mono (ok_Growth___init__ T) (by decide)) hr rfl T.mc_Growth T.b_Growth___init__ .nil pass0 (pa_cons (pe_ix ix_tup (pv 0) pe_int (fun _ _=>rfl)) pa_nil)))))) pss_nil)
  (pss_one (ps_raise rfl throwE rfl T.mc_NoTerm T.xc_NoTerm (pa_cons pe_str pa_nil)))))))),?_⟩
 have bad:GBad g->∀H',Same H H'->E (.ref T.c_NoTerm) none H':=fun z=>by
  rcases hk with ⟨p,rfl,ho,_⟩ | ⟨_,k⟩
  ·exfalso
   match p,ho,z with
   | .cho h l,ho,z=>exact z ho
   | .pow f,ho,z=>exact ho.2.1 z
   | .gro f,ho,z=>exact ho.2.1 z
  ·exact k
 have good:∀p,g=.pt p->¬GBad g->mkP T H Q p:=fun p e n=>by
  rcases hk with ⟨p',e',ho,k⟩ | ⟨z,_⟩
  ·rw [e] at e';cases e';exact k
  ·exact absurd z n
 clear hk
 match g,hg,bad,good with
 | .pt (.cho h l),⟨a,b,hr',ha,hb⟩,bad,good=>
  dsimp only [a_seq]
  k_typeOf
  refine⟨_,SqT.of hr',_,rfl,?_⟩
  k_units
  exact⟨_,SqT.of hr',_,rfl,_,SqT.of hr',_,rfl,a,b,h,l,rfl,SqT.of ha,SqT.of hb,fun hc H1 s1=>⟨_,SqT.of (s1 _ _ hr'),_,rfl,_,SqT.of (s1 _ _ hr'),_,rfl,mk_cho (s1 _ _ ha) (s1 _ _ hb) ((good _ rfl (fun z=>z hc)).on s1)⟩,fun hc=>bad hc⟩
 | .pt (.wei f),⟨a,hr',ha⟩,bad,good=>
  dsimp only [a_seq]
  k_typeOf
  refine⟨_,SqT.of hr',_,rfl,?_⟩
  k_units
  rw [if_neg (by decide)]
  refine⟨_,SqT.of hr',_,rfl,?_⟩
  k_units
  exact⟨_,SqT.of hr',_,rfl,mk_wei ha (good _ rfl id)⟩
 | .pt (.pow f),⟨a,hr',ha⟩,bad,good=>
  dsimp only [a_seq]
  k_typeOf
  refine⟨_,SqT.of hr',_,rfl,?_⟩
  k_units
  rw [if_neg (by decide)]
  refine⟨_,SqT.of hr',_,rfl,?_⟩
  k_units
  rw [if_neg (by decide)]
  refine⟨_,SqT.of hr',_,rfl,?_⟩
  k_units
  exact⟨_,SqT.of hr',_,rfl,a,f,rfl,SqT.of ha,fun f0=>⟨_,SqT.of hr',_,rfl,mk_pow ha (good _ rfl f0)⟩,fun f0=>bad f0 H (Same.refl _)⟩
 | .pt (.gro f),⟨a,hr',ha⟩,bad,good=>
  dsimp only [a_seq]
  k_typeOf
  refine⟨_,SqT.of hr',_,rfl,?_⟩
  k_units
  rw [if_neg (by decide)]
  refine⟨_,SqT.of hr',_,rfl,?_⟩
  k_units
  rw [if_neg (by decide)]
  refine⟨_,SqT.of hr',_,rfl,?_⟩
  k_units
  rw [if_neg (by decide)]
  refine⟨_,SqT.of hr',_,rfl,?_⟩
  k_units
  exact⟨_,SqT.of hr',_,rfl,a,f,rfl,SqT.of ha,fun f0=>⟨_,SqT.of hr',_,rfl,mk_gro ha (good _ rfl f0)⟩,fun f0=>bad f0 H (Same.refl _)⟩
 | .wd k b,hg,bad,good=>
  obtain⟨hk,a,hr'⟩:k < 7∧∃a,H r=some (.tup [.str (wdS k),.ref a]):=by
   match b,hg with
   | true,⟨h0,a,h1,_⟩=>exact⟨h0,a,h1⟩
   | false,⟨h0,a,h1,_⟩=>exact⟨h0,a,h1⟩
  obtain⟨n1,n2,n3,n4⟩:=wd_ne k hk
  dsimp only [a_seq]
  k_typeOf
  refine⟨_,SqT.of hr',_,rfl,?_⟩
  k_units
  rw [if_neg n1]
  refine⟨_,SqT.of hr',_,rfl,?_⟩
  k_units
  rw [if_neg n2]
  refine⟨_,SqT.of hr',_,rfl,?_⟩
  k_units
  rw [if_neg n3]
  refine⟨_,SqT.of hr',_,rfl,?_⟩
  k_units
  rw [if_neg n4]
  exact⟨by decide,bad hk H (Same.refl _)⟩
def spTInit {K:W.Frag} {mg:Str->Option Value} (T:Tx K mg):Sp:=fun vs H Q E=>∃(x dx A:Addr) (rs:List Addr) (gs:List Gp),vs=[.ref x,.ref A]∧H x=some (.ins T.c_Term dx [])∧H A=some (.lst (rs.map V.ref))∧Gts H rs gs∧
 ((∃ps:List Prt,gs=ps.map Gp.pt∧(∀p∈ps,PrtOk p)∧1<=ps.length∧ps.length<=6∧
   ∀(P1 P2:Addr) (qs:List Addr) (H':Hp),(∀y o,y≠x->H y=some o->H' y=some o)->H P1=none->H P2=none->H' x=some (.ins T.c_Term dx (trmF P1 P2))->H' P1=some (.lst (rs.map V.ref))->H' P2=some (.lst (qs.map V.ref))->Pcs T H H' qs ps->Q .non H')∨
  ((gs.length=0∨6 < gs.length∨((∀g∈gs,GOk g∨GBad g)∧∃g∈gs,GBad g))∧∀H',(∀y o,y≠x->H y=some o->H' y=some o)->E (.ref T.c_NoTerm) none H'))
theorem ok_bad {g:Gp} (h:GOk g):¬GBad g:=fun z=>by
 match g,h,z with
 | .pt (.cho h l),ho,z=>exact z ho
 | .pt (.pow f),ho,z=>exact ho.2.1 z
 | .pt (.gro f),ho,z=>exact ho.2.1 z
theorem ok_Term___init__ {P:Program} {w:World} {K:W.Frag} {mg:Str->Option Value} {base:Heap} (T:Tx K mg):FnOk P w K mg base (CXE P w) 5 T.a_Term___init__ T.fd_Term___init__ ["self","parts"] (spTInit T):=by
 refine T.F_Term___init__.okE sc_Term___init__ (fun vs H Q E h=>?_) (fun cdv A outer s H vs Q E hr h=>?_)
 ·obtain⟨x,dx,A,rs,gs,rfl,_⟩:=h
  rfl
 obtain⟨x,dx,A,rs,gs,rfl,hx,hA,hG,hk⟩:=h
 refine⟨_,((pss_cons (ps_if (PT.nox (PW.pt (pw_or (pt_cmpR op_eq (pe_callB call_len_seq rfl T.z_len bt_len (pa_cons (pv 1) pa_nil)) pe_int (nomark _)) (pw_or1 (pt_cmpR op_gt (pe_callB call_len_seq rfl T.z_len bt_len (pa_cons (pv 1) pa_nil)) (pe_glob (v:=.int 6) rfl T.g_MOST_PARTS.2 ⟨_,rfl⟩) (nomark _)))))) (pss_one (ps_raise rfl throwE rfl T.mc_NoTerm T.xc_NoTerm (pa_cons (pe_fst2 (pe_glob (v:=.int 6) rfl T.g_MOST_PARTS.2 ⟨_,rfl⟩)) pa_nil))) pss_nil)
  (pss_cons (PS.nox (ps_fld (pv 0) (pe_callTy call_list_of rfl T.z_list bt_list (pa_cons (pv 1) pa_nil)) rfl))
  (pss_one (ps_fld (pv 0) (pe_lcompE hr.hd (blkok rfl sub_nil fv_nil) (pi_list (pv 1)) (fun _ _ _ _=>(pe_call (FnOk.mono (ok_piece_of T) (by decide)) hr rfl T.m_piece_of T.F_piece_of.kp T.b_piece_of .nil passB (pa_cons (pv 0) pa_nil)))) rfl))))),?_⟩
 k_units
 have lr:(rs.map V.ref).length=gs.length:=by rw [List.length_map];exact hG.len
 refine⟨_,.inl (SqL.of hA),?_⟩
 rw [lr]
 refine ite2 (fun z=>?_) (fun z0=>?_)
 ·rcases hk with ⟨ps,rfl,_,l1,_⟩ | ⟨_,ke⟩
  ·rw [List.length_map] at z;omega
  ·exact⟨by decide,by decide,by decide +kernel,by decide +kernel,by decide,ke H fun _ _ _ e=>e⟩
 refine⟨_,.inl (SqL.of hA),?_⟩
 rw [lr]
 refine ite2 (fun z=>?_) (fun z6=>?_)
 ·rcases hk with ⟨ps,rfl,_,_,l6,_⟩ | ⟨_,ke⟩
  ·rw [List.length_map] at z;omega
  ·exact⟨by decide,by decide,by decide +kernel,by decide +kernel,by decide,ke H fun _ _ _ e=>e⟩
 refine⟨_,.inl (SqL.of hA),fun P1 nP1=>?_⟩
 have u1:=same_upd nP1 (.lst (rs.map V.ref))
 refine⟨T.c_Term,dx,[],u1 _ _ hx,T.cl_Term,T.na_Term_parts,by decide,?_⟩
 have pf1:putF (Str.ofString "parts") (V.ref P1) []=[(Str.ofString "parts",V.ref P1)]:=rfl
 rw [pf1]
 have xA:A≠x:=ne_of hA hx (fun z=>nomatch z)
 have xP:P1≠x:=fun z=>by rw [z,hx] at nP1;cases nP1
 obtain⟨G,hG'⟩:∃G,G=L2.upd (L2.upd H P1 (.lst (rs.map V.ref))) x (.ins T.c_Term dx [(Str.ofString "parts",V.ref P1)]):=⟨_,rfl⟩
 rw [← hG']
 have gx:G x=some (.ins T.c_Term dx [(Str.ofString "parts",V.ref P1)]):=by rw [hG'];exact upd_same
 have gk:∀y o,y≠x->H y=some o->G y=some o:=fun y o hy e=>by rw [hG',upd_ne hy];exact u1 _ _ e
 have gP:G P1=some (.lst (rs.map V.ref)):=by rw [hG',upd_ne xP,upd_same]
 have gn:∀y,G y=none->H y=none:=fun y e=>by
  by_cases hy:y=x
  ·rw [hy,gx] at e;cases e
  ·rw [hG',upd_ne hy] at e;exact u1.free e
 have gGt:Gts G rs gs:=hG.kt fun a xs e=>gk a _ (ne_of e hx (fun z=>nomatch z)) e
 clear hG'
 refine⟨⟨_,SqL.of (gk _ _ xA hA)⟩,fun D nD=>?_⟩
 obtain⟨G1,hG1⟩:∃G1,G1=L2.upd G D (.lst []):=⟨_,rfl⟩
 have g1D:G1 D=some (.lst []):=by rw [hG1];exact upd_same
 have g1n:∀y,G1 y=none->G y=none:=fun y e=>by rw [hG1] at e;exact (upd_none e).2
 have xD:D≠x:=fun z=>by rw [z,gx] at nD;cases nD
 have lg6:gs.length<=6:=by omega
 rcases hk with ⟨ps,rfl,hO,l1,l6,k⟩ | ⟨hb,ke⟩
 ·obtain⟨Pc,hPc⟩:∃Pc:Nat->Hp->Prop,∀j Hx,Pc j Hx↔∃qs:List Addr,Hx D=some (.lst (qs.map V.ref))∧Pcs T G1 Hx qs (ps.take j)∧Same G Hx:=⟨_,fun _ _=>Iff.rfl⟩
  refine cl_list (xs:=rs.map V.ref) Pc ((hPc _ _).mpr ⟨[],upd_same,⟨by simp,fun i q p e=>by simp at e⟩,same_upd nD _⟩) (fun i Hx _ z=>by obtain⟨_,_,_,z⟩:=(hPc i Hx).mp z;exact z.seq (SqL.of (gk _ _ xA hA))) ?_ ?_
  ·intro j v Hx hv hc
   obtain⟨qs,k1,k2,k3⟩:=(hPc _ _).mp hc
   rw [List.getElem?_map] at hv
   obtain⟨r,hr1,rfl⟩:=Option.map_eq_some_iff.mp hv
   have hj:=(List.getElem?_eq_some_iff.mp hr1).1
   have hj2:j < ps.length:=by have:=hG.len;rw [List.length_map] at this;omega
   (iterate 3 (k_units;(try simp only [bst,Option.getD_some]));k_units)
   refine⟨r,.pt ps[j],rfl,(gGt.get j r _ hr1 (by rw [List.getElem?_map,List.getElem?_eq_getElem hj2];rfl)).on k3,.inl ⟨_,rfl,hO _ (List.getElem_mem hj2),fun q H' s' hq=>?_⟩⟩
   have lq:=k2.len
   rw [List.length_take] at lq
   refine⟨_,s' _ _ k1,by rw [List.length_map];exact small1000 (by omega),(hPc _ _).mpr ⟨qs++[q],by rw [upd_same];simp,?_,(k3.trans s').more nD⟩⟩
   have kq:Kp G1 Hx (L2.upd H' D (.lst (qs.map V.ref++[V.ref q]))):=kpD s' (by rw [g1D];simp) k1
   rw [← List.take_append_getElem hj2]
   refine (k2.kp kq).snoc ?_
   have hq1:PcAt T Hx (L2.upd H' D (.lst (qs.map V.ref++[V.ref q]))) q ps[j]:=hq.kp (kpD (Same.refl H') (by rw [k1];simp) (s' _ _ k1))
   exact hq1.fr fun y e=>by
    by_cases hy:y=D
    ·rw [hy,k1] at e;cases e
    ·rw [hG1,upd_ne hy];exact k3.free e
  intro Hx hc
  obtain⟨qs,k1,k2,k3⟩:=(hPc _ _).mp hc
  rw [List.length_map,hG.len,List.length_map,List.take_of_length_le (Nat.le_refl _)] at k2
  refine⟨T.c_Term,dx,_,k3 _ _ gx,T.cl_Term,T.na_Term_pieces,by show 1 < 1000;decide,?_⟩
  have pf2:putF (Str.ofString "pieces") (V.ref D) [(Str.ofString "parts",V.ref P1)]=trmF P1 D:=rfl
  rw [pf2]
  refine k P1 D qs _ (fun y o hy e=>by rw [upd_ne hy];exact k3 _ _ (gk y o hy e)) nP1 (gn _ nD) upd_same (by rw [upd_ne xP];exact k3 _ _ gP) (by rw [upd_ne xD];exact k1) ?_
  refine (k2.kp fun a o e n=>?_).from fun y e=>gn _ (g1n _ e)
  have:a≠x:=fun z=>by
   subst z
   rw [k3 _ _ gx] at e
   cases e
   cases n with
   | ins z=>
    have z':some (V.ref P1)=none:=z
    cases z'
  rw [upd_ne this];exact e
 ·obtain⟨hall,gb,hgb,hbad⟩:(∀g∈gs,GOk g∨GBad g)∧∃g∈gs,GBad g:=by
   rcases hb with z | z | z
   ·omega
   ·omega
   ·exact z
  obtain⟨Pc,hPc⟩:∃Pc:Nat->Hp->Prop,∀j Hx,Pc j Hx↔∃us:List V,Hx D=some (.lst us)∧us.length=j∧(∀g∈gs.take j,GOk g)∧Same G Hx:=⟨_,fun _ _=>Iff.rfl⟩
  refine cl_list (xs:=rs.map V.ref) Pc ((hPc _ _).mpr ⟨[],upd_same,rfl,fun g hg=>by simp at hg,same_upd nD _⟩) (fun i Hx _ z=>by obtain⟨_,_,_,_,z⟩:=(hPc i Hx).mp z;exact z.seq (SqL.of (gk _ _ xA hA))) ?_ ?_
  ·intro j v Hx hv hc
   obtain⟨us,k1,k2,k3,k4⟩:=(hPc _ _).mp hc
   rw [List.getElem?_map] at hv
   obtain⟨r,hr1,rfl⟩:=Option.map_eq_some_iff.mp hv
   have hj:=(List.getElem?_eq_some_iff.mp hr1).1
   have hj2:j < gs.length:=by have:=hG.len;omega
   (iterate 3 (k_units;(try simp only [bst,Option.getD_some]));k_units)
   refine⟨r,gs[j],rfl,(gGt.get j r _ hr1 (List.getElem?_eq_getElem hj2)).on k4,?_⟩
   rcases hall _ (List.getElem_mem hj2) with hok | hbd
   ·have hok':=hok
    obtain⟨p,hp⟩:∃p,gs[j]=.pt p:=by
     cases e:gs[j] with
     | pt p=>exact⟨p,rfl⟩
     | wd k b=>rw [e] at hok;exact hok.elim
    rw [hp] at hok'
    refine .inl ⟨p,hp,hok',fun q H' s' hq=>⟨_,s' _ _ k1,small1000 (by omega),(hPc _ _).mpr ⟨us++[V.ref q],upd_same,by simp [k2],fun g hg=>?_,(k4.trans s').more nD⟩⟩⟩
    rw [← List.take_append_getElem hj2] at hg
    rcases List.mem_append.mp hg with z | z
    ·exact k3 g z
    ·rw [List.mem_singleton.mp z];exact hok
   ·exact .inr ⟨hbd,fun H' s'=>ke H' fun y o hy e=>s' _ _ (k4 _ _ (gk y o hy e))⟩
  intro Hx hc
  obtain⟨us,k1,k2,k3,k4⟩:=(hPc _ _).mp hc
  rw [List.length_map,hG.len,List.take_of_length_le (Nat.le_refl _)] at k3
  exact absurd hbad (ok_bad (k3 gb hgb))
def spTold {K:W.Frag} {mg:Str->Option Value} (T:Tx K mg):Sp:=fun vs H Q _=>∃(x:Addr) (H0:Hp) (rs:List Addr) (ps:List Prt),vs=[.ref x]∧TermAt T H0 H x rs ps∧newL H Q (rs.map V.ref)
theorem ok_Term_told {P:Program} {w:World} {K:W.Frag} {mg:Str->Option Value} {base:Heap} (T:Tx K mg):FnOk P w K mg base CX0 1 T.a_Term_told T.fd_Term_told ["self"] (spTold T):=by
 refine T.F_Term_told.ok sc_Term_told (fun vs H Q E h=>?_) (fun cdv A outer s H vs Q E hr h=>?_)
 ·obtain⟨x,H0,rs,ps,rfl,_⟩:=h
  rfl
 obtain⟨x,H0,rs,ps,rfl,⟨dx,P1,P2,qs,h1,h2,h3,h4,h5,h6⟩,k⟩:=h
 refine⟨_,((pss_one (ps_ret (pe_callTy call_list_of rfl T.z_list bt_list (pa_cons (pe_fld (pv 0) rfl) pa_nil))))),?_⟩
 k_units
 exact⟨_,_,_,h1,T.cl_Term,T.na_Term_parts,_,rfl,P1,rfl,_,.inl (SqL.of h3),fun r nr=>k r _ (same_upd nr _) nr upd_same⟩
def prT:Prt->List Nat
 | .cho h l=>67 :: 40 :: (shF h++(44 :: 32 :: (shF l++[41])))
 | .wei f=>40 :: (shF f++[41])
 | .pow f=>91 :: (shR f++[93,94,107])
 | .gro f=>91 :: (shR f++[93,94,110])
def PrB:Prt->Prop
 | .cho h l=>FBd h 400∧FBd l 400
 | .wei f=>FBd f 400
 | .pow f=>f.1.natAbs < 2 ^ 400∧f.2.natAbs < 2 ^ 400
 | .gro f=>f.1.natAbs < 2 ^ 400∧f.2.natAbs < 2 ^ 400
theorem l_C:Str.ofString "C(" = TX.S [67,40]:=rfl
theorem l_cl:Str.ofString ")" = TX.S [41]:=rfl
theorem l_op:Str.ofString "(" = TX.S [40]:=rfl
theorem l_sq:Str.ofString "[" = TX.S [91]:=rfl
theorem all_len {f:Int×Int×Int} (h:FBd f 400):(allT f).length<=393:=by rw [← up_3];exact up_len h 3
theorem shF_len {f:Int×Int×Int} (h:FBd f 400):(shF f).length<=393:=by unfold shF;split;simp;exact all_len h
theorem shR_len {f:Int×Int} (h1:f.1.natAbs < 2 ^ 400) (h2:f.2.natAbs < 2 ^ 400):(shR f).length<=245:=by
 have:=sh_len h1
 have:=sh_len h2
 unfold shR;split
 ·omega
 ·simp;omega
theorem w_wc:decide (Str.ofString "weight" = Str.ofString "choose")=false:=by decide +kernel
theorem w_ww:decide (Str.ofString "weight" = Str.ofString "weight")=true:=by decide +kernel
theorem w_pc:decide (Str.ofString "power" = Str.ofString "choose")=false:=by decide +kernel
theorem w_pw:decide (Str.ofString "power" = Str.ofString "weight")=false:=by decide +kernel
theorem w_gc:decide (Str.ofString "growth" = Str.ofString "choose")=false:=by decide +kernel
theorem w_gw:decide (Str.ofString "growth" = Str.ofString "weight")=false:=by decide +kernel
theorem cl_vals {K:W.Frag} {a:Addr} {xs zs:List V} {fv:List (Nat×Str)} {te:TE} {Q:VK} {σ:L2.St} {H1:Hp} {D:Addr} (nD:H1 D=none) (hA:SqL K H1 a xs) (hd:zs.length=xs.length) (hl:zs.length<=900)
  (hs:∀(i:Nat) (v z:V) (Hx:Hp) (R:VK),xs[i]?=some v->zs[i]?=some z->Same H1 Hx->(∀H',Same Hx H'->R z H')->te (bst fv σ (some v)) Hx R) (he:newL H1 Q zs):CLoop (Itl K a) fv te Q σ H1 D:=by
 obtain⟨Pc,hPc⟩:∃Pc:Nat->Hp->Prop,∀j Hx,Pc j Hx↔Hx D=some (.lst (zs.take j))∧Same H1 Hx:=⟨_,fun _ _=>Iff.rfl⟩
 refine cl_list (xs:=xs) Pc ((hPc _ _).mpr ⟨upd_same,same_upd nD _⟩) (fun i Hx _ z=>by obtain⟨_,z⟩:=(hPc i Hx).mp z;exact z.seq hA) ?_ ?_
 ·intro j v Hx hv hc
  obtain⟨k1,k3⟩:=(hPc _ _).mp hc
  have hj:j < zs.length:=by have:=(List.getElem?_eq_some_iff.mp hv).1;omega
  refine hs j v _ Hx _ hv (List.getElem?_eq_getElem hj) k3 fun H2 s2=>?_
  refine⟨_,s2 _ _ k1,by rw [List.length_take];exact small1000 (by omega),(hPc _ _).mpr ⟨?_,(k3.trans s2).more nD⟩⟩
  rw [upd_same,← List.take_append_getElem hj]
 intro Hx hc
 obtain⟨k1,k3⟩:=(hPc _ _).mp hc
 rw [← hd,List.take_length] at k1
 exact he D Hx k3 nD k1
def trT (ps:List Prt):List Nat:=TX.jn [32,42,32] (ps.map prT)
theorem l_st:Str.ofString " * " = TX.S [32,42,32]:=rfl
theorem nb_400 {n:Int} (h:NB n):n.natAbs < 2 ^ 400:=Nat.lt_of_lt_of_le h (by decide +kernel)
def newH (H:Hp) (Q:VK) (v:V):Prop:=∀H',Same H H'->Q v H'
def spRdW:Sp:=fun vs H Q _=>∃t:List Nat,vs=[.str (TX.S t)]∧t.length<=9000∧((∃n,t=TX.shI n∧NB n∧newH H Q (.int n))∨((∀n,t=TX.shI n->¬NB n)∧newH H Q .non))
theorem l_fig:Str.ofString "0123456789" = TX.S [48,49,50,51,52,53,54,55,56,57]:=rfl
def fgT (t:List Nat):List Nat:=if [45].isPrefixOf t then t.drop 1 else t
theorem fg_sh (n:Int):fgT (TX.shI n)=TX.dg n.natAbs:=by
 unfold fgT TX.shI
 by_cases z:n < 0
 ·rw [if_pos z];simp
 ·rw [if_neg z,if_neg]
  intro h
  obtain⟨r,hr⟩:=List.isPrefixOf_iff_prefix.mp h
  have:45∈TX.dg n.natAbs:=by rw [← hr];simp
  have:=TX.dg_all _ 45 this
  omega
theorem dg_back {t:List Nat} (h:PySem.NumText.AllDigits (fgT t)) (ne:fgT t≠[]) (hl:t.length<=640):∃m:Int,PySem.intText? (TX.S t)=some m∧m.natAbs=PySem.NumText.digitsVal (fgT t):=by
 unfold fgT at *
 split at h
 ·rename_i z
  obtain⟨r,rfl⟩:=List.isPrefixOf_iff_prefix.mp z
  rw [if_pos z] at *
  simp only [List.cons_append,List.nil_append,List.drop_succ_cons,List.drop_zero] at *
  exact⟨_,intText_neg (x:=TX.S (45 :: r)) (cs:=r) (TX.S_list _) h ne (by rw [TX.S_len];omega),by omega⟩
 ·rename_i z
  rw [if_neg z] at *
  exact⟨_,intText_digits (x:=TX.S t) (by rw [TX.S_list];exact h) (by rw [TX.S_list];exact ne) (by rw [TX.S_len];omega),by rw [TX.S_list];omega⟩
theorem dgv_lt:∀{cs:List Nat},PySem.NumText.AllDigits cs->PySem.NumText.digitsVal cs < 10 ^ cs.length:=by
 have key:∀(cs:List Nat) (a:Nat),PySem.NumText.AllDigits cs->cs.foldl (fun acc c=>acc * 10+(c - 48)) a < (a+1) * 10 ^ cs.length:=fun cs=>by
  induction cs with
  | nil=>intro a _;simp
  | cons c r ih=>
   intro a h
   have h1:=ih (a * 10+(c - 48)) (fun d hd=>h d (.tail _ hd))
   have h2:=h c (.head _)
   rw [List.foldl_cons,List.length_cons,Nat.pow_succ]
   refine Nat.lt_of_lt_of_le h1 ?_
   rw [← Nat.mul_assoc,Nat.mul_right_comm]
   exact Nat.mul_le_mul_right _ (by omega)
 intro cs h
 have:=key cs 0 h
 rw [Nat.zero_add,Nat.one_mul] at this
 exact this
theorem cl_str {z:List Nat} {bs:List Bool} {fv:List (Nat×Str)} {te:TE} {Q:VK} {σ:L2.St} {H1:Hp} {D:Addr} (nD:H1 D=none) (hd:bs.length=z.length) (hl:z.length<=900)
  (hs:∀(i:Nat) (c:Nat) (b:Bool) (Hx:Hp) (R:VK),z[i]?=some c->bs[i]?=some b->Same H1 Hx->(∀H',Same Hx H'->R (.bl b) H')->te (bst fv σ (some (.str (TX.S [c])))) Hx R) (he:newL H1 Q (bs.map V.bl)):CLoop (Its (TX.S z)) fv te Q σ H1 D:=by
 refine⟨fun i m Hx=>m=z.length - i∧i<=z.length∧Hx D=some (.lst ((bs.take i).map V.bl))∧Same H1 Hx,⟨_,rfl,Nat.zero_le _,upd_same,same_upd nD _⟩,?_⟩
 rintro i m Hx ⟨rfl,hi,k1,k3⟩
 have sz:(TX.S z).cps.size=z.length:=by simp [TX.S]
 by_cases h:i < z.length
 ·refine .inr ⟨by show i < (TX.S z).cps.size;omega,fun H'=>i+1<=z.length∧H' D=some (.lst ((bs.take (i+1)).map V.bl))∧Same H1 H',fun H' p=>⟨z.length - (i+1),by omega,rfl,p⟩,fun v H' y=>?_⟩
  obtain⟨rfl,c,hc,rfl⟩:=y
  have hc':z[i]?=some c:=by simpa [TX.S] using hc
  refine hs i c _ H' _ hc' (List.getElem?_eq_getElem (show i < bs.length by omega)) k3 fun H2 s2=>?_
  refine⟨_,s2 _ _ k1,by rw [List.length_map,List.length_take];exact small1000 (by omega),by omega,?_,(k3.trans s2).more nD⟩
  rw [upd_same,← List.take_append_getElem (show i < bs.length by omega),List.map_append];rfl
 ·refine .inl ⟨by show (TX.S z).cps.size<=i;omega,?_⟩
  rw [List.take_of_length_le (by omega)] at k1
  exact he D Hx k3 nD k1
theorem ok_read_whole {P:Program} {w:World} {K:W.Frag} {mg:Str->Option Value} {base:Heap} (T:Tx K mg):FnOk P w K mg base CX0 1 T.a_read_whole T.fd_read_whole ["text"] spRdW:=by
 refine T.F_read_whole.ok sc_read_whole (fun vs H Q E h=>?_) (fun cdv A outer s H vs Q E hr h=>?_)
 ·obtain⟨t,rfl,_⟩:=h
  rfl
 obtain⟨t,rfl,lt,q⟩:=h
 refine⟨_,((pss_mid (ps_set (i:=1) sc_read_whole.nd rfl (Or.inl rfl) (pe_ifExp (pt_val (pe_bm PySem.F.plainAttrs_str PySem.F.slot_str_startswith PySem.F.type_str_startswith mt_starts (pv 0) (pa_cons pe_str pa_nil))) (pe_slice sl_str (pv 0) (po_some pe_int) po_none) (pv 0)))
  (pss_cons (ps_if (PW.pt (pw_or (pt_cmpR op_eq (pe_callB call_len_str rfl T.z_len bt_len (pa_cons (pv 1) pa_nil)) pe_int (nomark _)) (pw_or1 (pt_cmpR op_gt (pe_callB call_len_str rfl T.z_len bt_len (pa_cons (pv 1) pa_nil)) (pe_glob (v:=.int 60) rfl T.g_MOST_FIGURES.2 ⟨_,rfl⟩) (nomark _))))) (pss_one (ps_ret pe_non)) pss_nil)
  (pss_cons (ps_if (pt_not (pt_val (pe_callB (call_allL rfl) rfl T.z_all boot_all (pa_cons (pe_lcomp rfl (blkok rfl sub_nil fv_nil) (pi_str (pv 1)) (fun _ _ _ _=>(pe_cmpR op_inT (pv 0) (pe_glob (v:=.str "0123456789") rfl T.g_FIGURES.2 ⟨_,rfl⟩) (by with_unfolding_all rfl)))) pa_nil)))) (pss_one (ps_ret pe_non)) pss_nil)
  (pss_cons (ps_set (i:=2) sc_read_whole.nd rfl (Or.inl rfl) (pe_callTy call_intS rfl T.z_int bt_int (pa_cons (pv 0) pa_nil)))
  (pss_one (ps_ret (pe_ifExp (pt_cmpR op_eq (pe_callTy call_str_int rfl T.z_str bt_str (pa_cons (pv 2) pa_nil)) (pv 0) (nomark _)) (pv 2) pe_non)))))))),?_⟩
 obtain⟨M,hM⟩:∃M:L2.St->Hp->Prop,∀σ Hx,M σ Hx↔σ=[some (.str (TX.S t)),some (.str (TX.S (fgT t))),none]∧Hx=H:=⟨_,fun _ _=>Iff.rfl⟩
 refine mid_of M ?_ ?_
 ·k_units
  rw [l_mi,TX.starts_S]
  refine ite2 (fun h=>⟨by rw [TX.S_len];omega,(hM _ _).mpr ⟨?_,rfl⟩⟩) (fun h=>(hM _ _).mpr ⟨?_,rfl⟩)
  ·rw [TX.slice_S]
   unfold fgT
   rw [if_pos h]
   rw [show TX.sx t.length 0 (some 1)=min 1 t.length from rfl,show TX.sx t.length t.length none=t.length from rfl]
   by_cases z:t.length=0
   ·rw [List.eq_nil_of_length_eq_zero z];rfl
   ·rw [show min 1 t.length=1 by omega,List.take_of_length_le (by rw [List.length_drop];omega)]
  ·unfold fgT;rw [if_neg h]
 intro σ Hx hm
 obtain⟨rfl,rfl⟩:=(hM _ _).mp hm
 clear hm hM M
 have lf:(fgT t).length<=9000:=by
  unfold fgT;split
  ·rw [List.length_drop];omega
  ·exact lt
 dsimp only [a_seq]
 k_typeOf
 rw [TX.S_len]
 have no:∀n,t=TX.shI n->NB n->fgT t≠[]∧(fgT t).length<=60∧PySem.NumText.AllDigits (fgT t):=fun n e b=>by
  subst e
  rw [fg_sh]
  exact⟨TX.dg_ne _,TX.dg_len b (by decide),TX.dg_all _⟩
 have bad:¬(fgT t≠[]∧(fgT t).length<=60∧PySem.NumText.AllDigits (fgT t))->newH Hx Q .non:=fun nb=>by
  rcases q with ⟨n,e,b,_⟩ | ⟨_,q⟩
  ·exact absurd (no n e b) nb
  ·exact q
 refine⟨sl_of (by omega),ite2 (fun h0=>bad (fun z=>?_) _ (Same.refl _)) (fun h0=>⟨sl_of (by omega),ite2 (fun h1=>bad (fun z=>?_) _ (Same.refl _)) (fun h1=>?_)⟩)⟩
 ·exact z.1 (List.eq_nil_of_length_eq_zero (by omega))
 ·omega
 dsimp only [a_seq]
 k_typeOf
 refine fun D nD=>?_
 refine cl_str (z:=fgT t) (bs:=(fgT t).map fun c=>decide (48<=c∧c<=57)) nD (by simp) (by omega) (fun i c b Hy R hc hb sx hR=>?_) fun D' H2 s2 nD' eD'=>⟨D',rfl,_,SqL.of eD',?_⟩
 ·rw [List.getElem?_map,hc] at hb
  obtain rfl:decide (48<=c∧c<=57)=b:=Option.some.inj hb
  (iterate 3 (k_units;(try simp only [bst]));k_units)
  have e:(TX.S [c])=⟨#[c]⟩:=rfl
  rw [e,StrLaws.found_one,l_fig,TX.S_list,show decide (c∈[48,49,50,51,52,53,54,55,56,57])=decide (48<=c∧c<=57) from decide_eq_decide.mpr (by simp;omega)]
  exact hR _ (Same.refl _)
 rw [List.all_map]
 refine ite2 (fun h2=>bad (fun z=>?_) _ s2) (fun h2=>?_)
 ·have:((fgT t).all (id ∘ fun c=>decide (48<=c∧c<=57)))=true:=List.all_eq_true.mpr fun c hc=>decide_eq_true (z.2.2 c hc)
  rw [h2] at this;cases this
 have ad:PySem.NumText.AllDigits (fgT t):=fun c hc=>of_decide_eq_true (List.all_eq_true.mp (eq_true_of_ne_false h2) c hc)
 have ne:fgT t≠[]:=fun e=>h0 (by rw [e];rfl)
 have lt':t.length<=61:=by
  have:t.length<=(fgT t).length+1:=by
   unfold fgT;split
   ·rw [List.length_drop];omega
   ·omega
  omega
 obtain⟨m,hm,vm⟩:=dg_back ad ne (by omega)
 have bm:NB m:=by
  unfold NB
  rw [vm]
  exact Nat.lt_of_lt_of_le (dgv_lt ad) (Nat.pow_le_pow_right (by decide) (by omega))
 dsimp only [a_seq]
 k_typeOf
 refine⟨by rw [TX.S_len];omega,m,hm,log_of (nb_400 bm) (by decide) (by decide),?_⟩
 rw [TX.toS]
 refine ite2 (fun h=>?_) (fun h=>?_)
 ·have e:=TX.S_inj h
  rcases q with ⟨n,e',b,q⟩ | ⟨q,_⟩
  ·have:n=m:=by
    have h1:=TX.int_S (n:=n) (by rw [← e'];omega)
    rw [← e',hm] at h1
    exact (Option.some.inj h1).symm
   subst this
   exact q _ s2
  ·exact absurd bm (q m e.symm)
 ·rcases q with ⟨n,e',b,q⟩ | ⟨_,q⟩
  ·have h1:=TX.int_S (n:=n) (by rw [← e'];omega)
   rw [← e',hm] at h1
   cases Option.some.inj h1
   exact absurd (by rw [← e']) h
  ·exact q _ s2
def spRdC:Sp:=fun vs H Q _=>∃t lt:List Nat,vs=[.str (TX.S t),.str (TX.S lt)]∧t.length<=9000∧∀H' v,Same H H'->(v=.non∨∃n,v=.int n∧NB n)->(∀n,NB n->(n≠0∨lt=[])->t++lt=cntT n lt->v=.int n)->Q v H'
theorem sh_45 (n:Int):TX.shI n≠[45]:=by
 unfold TX.shI
 split
 ·intro h
  exact TX.dg_ne _ (List.cons.inj h).2
 ·intro h
  have:=TX.dg_all n.natAbs 45 (by rw [h];exact .head _)
  omega
theorem cnt_inv {t lt:List Nat} {n:Int} (hl:lt≠[]) (n0:n≠0) (h:t++lt=cntT n lt):(t=[]∧n=1)∨(t=[45]∧n=-1)∨(t≠[]∧t≠[45]∧t=TX.shI n):=by
 unfold cntT at h
 split at h
 ·cases List.append_cancel_right h
  exact .inr (.inr ⟨TX.sh_ne _,sh_45 _,rfl⟩)
 ·rename_i z
  have:=not_or.mp z
  split at h
  ·exact .inl ⟨List.append_cancel_right (show t++lt=[]++lt from h),by omega⟩
  ·exact .inr (.inl ⟨List.append_cancel_right (show t++lt=[45]++lt from h),by omega⟩)
theorem S_nil {t:List Nat}:TX.S t=Str.ofString "" ↔ t=[]:=by rw [l_e];exact TX.S_eq
theorem S_mi {t:List Nat}:TX.S t=Str.ofString "-" ↔ t=[45]:=by rw [l_mi];exact TX.S_eq
theorem ok_read_counted {P:Program} {w:World} {K:W.Frag} {mg:Str->Option Value} {base:Heap} (T:Tx K mg):FnOk P w K mg base CX0 2 T.a_read_counted T.fd_read_counted ["text","letter"] spRdC:=by
 refine T.F_read_counted.ok sc_read_counted (fun vs H Q E h=>?_) (fun cdv A outer s H vs Q E hr h=>?_)
 ·obtain⟨t,lt,rfl,_⟩:=h
  rfl
 obtain⟨t,lt,rfl,ll,q⟩:=h
 refine⟨_,((pss_cons (ps_if (PW.pt (pw_and (pt_cmpR op_ne (pv 1) pe_str (nomark _)) (pw_and1 (pt_cmpR op_eq (pv 0) pe_str (nomark _))))) (pss_one (ps_ret pe_int)) pss_nil)
  (pss_cons (ps_if (PW.pt (pw_and (pt_cmpR op_ne (pv 1) pe_str (nomark _)) (pw_and1 (pt_cmpR op_eq (pv 0) pe_str (nomark _))))) (pss_one (ps_ret (pe_un un_neg pe_int))) pss_nil)
  (pss_one (ps_ret (pe_call (FnOk.mono (ok_read_whole T) (by decide)) hr rfl T.m_read_whole T.F_read_whole.kp T.b_read_whole .nil pass0 (pa_cons (pv 0) pa_nil))))))),?_⟩
 dsimp only [a_seq]
 k_typeOf
 simp only [S_nil,S_mi]
 have go:(lt=[]∨(t≠[]∧t≠[45]))->∃t':List Nat,[V.str (TX.S t)]=[.str (TX.S t')]∧t'.length<=9000∧((∃n,t'=TX.shI n∧NB n∧newH H Q (.int n))∨((∀n,t'=TX.shI n->¬NB n)∧newH H Q .non)):=fun hc=>by
  refine⟨t,rfl,ll,?_⟩
  by_cases z:∃n,t=TX.shI n∧NB n
  ·obtain⟨n,e,b⟩:=z
   refine .inl ⟨n,e,b,fun H' s'=>q H' _ s' (.inr ⟨n,rfl,b⟩) fun m bm hm h=>?_⟩
   congr 1
   have h2:t=TX.shI m:=by
    rcases hc with rfl | hc
    ·unfold cntT at h
     rw [if_pos (.inl rfl),List.append_nil,List.append_nil] at h
     exact h
    ·by_cases l0:lt=[]
     ·subst l0
      unfold cntT at h
      rw [if_pos (.inl rfl),List.append_nil,List.append_nil] at h
      exact h
     ·rcases cnt_inv l0 (hm.resolve_right l0) h with h | h | h
      ·exact absurd h.1 hc.1
      ·exact absurd h.1 hc.2
      ·exact h.2.2
   have h3:(TX.shI n).length<=640:=by have:=sh_len (nb_400 b);omega
   have h4:=TX.int_S h3
   rw [← e,h2,TX.int_S (by rw [← h2,e];exact h3)] at h4
   exact (Option.some.inj h4).symm
  ·refine .inr ⟨fun n e b=>z ⟨n,e,b⟩,fun H' s'=>q H' _ s' (.inl rfl) fun m bm hm h=>?_⟩
   exfalso
   by_cases l0:lt=[]
   ·subst l0
    unfold cntT at h
    rw [if_pos (.inl rfl),List.append_nil,List.append_nil] at h
    exact z ⟨m,h,bm⟩
   ·have hc:=hc.resolve_left l0
    rcases cnt_inv l0 (hm.resolve_right l0) h with h | h | h
    ·exact absurd h.1 hc.1
    ·exact absurd h.1 hc.2
    ·exact z ⟨m,h.2.2,bm⟩
 refine ite2 (fun l0=>ite2 (fun h=>?_) (fun h=>?_)) (fun l0=>?_)
 ·refine q _ _ (Same.refl _) (.inr ⟨1,rfl,by unfold NB;decide +kernel⟩) fun n bn hn e=>?_
  rcases cnt_inv l0 (hn.resolve_right l0) e with h1 | h1 | h1
  ·rw [h1.2]
  ·rw [h] at h1;cases h1.1
  ·exact absurd h h1.1
 ·skip
  dsimp only [a_seq]
  k_typeOf
  simp only [S_nil,S_mi]
  rw [if_pos l0]
  refine ite2 (fun h2=>?_) (fun h2=>?_)
  ·refine q _ _ (Same.refl _) (.inr ⟨-1,rfl,by unfold NB;decide +kernel⟩) fun n bn hn e=>?_
   rcases cnt_inv l0 (hn.resolve_right l0) e with h1 | h1 | h1
   ·exact absurd h1.1 h
   ·rw [h1.2]
   ·exact absurd h2 h1.2.1
  ·exact go (.inr ⟨h,h2⟩)
 ·skip
  dsimp only [a_seq]
  k_typeOf
  simp only [S_nil,S_mi]
  rw [if_neg l0]
  exact go (.inl (Classical.not_not.mp l0))
theorem nf47 (n:Int):47∉TX.shI n:=fun h=>by have:=TX.sh_mem h;omega
theorem cut1 {c:Nat}:∀{a a' b b':List Nat},c∉a->c∉a'->a++c :: b=a'++c :: b'->a=a'∧b=b'
 | [],[],_,_,_,_,e=>⟨rfl,(List.cons.inj e).2⟩
 | [],_ :: _,_,_,_,h',e=>absurd (by rw [(List.cons.inj e).1];exact .head _) h'
 | _ :: _,[],_,_,h,_,e=>absurd (by rw [← (List.cons.inj e).1];exact .head _) h
 | _ :: _,_ :: _,_,_,h,h',e=>by
  obtain⟨h1,h2⟩:=cut1 (fun z=>h (.tail _ z)) (fun z=>h' (.tail _ z)) (List.cons.inj e).2
  exact⟨by rw [(List.cons.inj e).1,h1],h2⟩
theorem sh_inj {n m:Int} (bn:NB n) (h:TX.shI n=TX.shI m):n=m:=by
 have h1:(TX.shI n).length<=640:=by have:=sh_len (nb_400 bn);omega
 have h2:=TX.int_S h1
 rw [h,TX.int_S (by rw [← h];exact h1)] at h2
 exact (Option.some.inj h2).symm
theorem shR_a {a b:List Nat} {f:Int×Int} (ha:47∉a) (h:a++47 :: b=shR f):a=TX.shI f.1∧b=TX.shI f.2∧f.2≠1:=by
 unfold shR at h
 split at h
 ·exact absurd (by rw [← h];simp) (nf47 f.1)
 ·rename_i z
  obtain⟨h1,h2⟩:=cut1 ha (nf47 _) h
  exact⟨h1,h2,z⟩
theorem shR_b {t:List Nat} {f:Int×Int} (ht:47∉t) (h:t=shR f):t=TX.shI f.1∧f.2=1:=by
 unfold shR at h
 split at h
 ·rename_i z
  exact⟨h,z⟩
 ·exact absurd (by rw [h];simp) ht
theorem fr_one {x y n d:Int} (h1:1<=y) (h2:Nat.gcd x.natAbs y.natAbs=1) (h3:1<=d) (h4:Nat.gcd n.natAbs d.natAbs=1) (e:x * d=n * y):x=n∧y=d:=by
 have e':x.natAbs * d.natAbs=n.natAbs * y.natAbs:=by rw [← Int.natAbs_mul,e,Int.natAbs_mul]
 have d1:y.natAbs∣d.natAbs:=(Nat.Coprime.symm h2).dvd_of_dvd_mul_left (by rw [e'];exact Nat.dvd_mul_left _ _)
 have d2:d.natAbs∣y.natAbs:=(Nat.Coprime.symm h4).dvd_of_dvd_mul_left (by rw [← e'];exact Nat.dvd_mul_left _ _)
 have e2:=Nat.dvd_antisymm d1 d2
 have e3:y=d:=by omega
 subst e3
 exact⟨Int.eq_of_mul_eq_mul_right (by omega) e,rfl⟩
def rdv (t:List Nat) (v:V):Prop:=(v=.non∧∀n,t=TX.shI n->¬NB n)∨∃n,v=.int n∧t=TX.shI n∧NB n
theorem rdw_of {H:Hp} {Q:VK} {t:List Nat} (h:∀v H',Same H H'->rdv t v->Q v H'):(∃n,t=TX.shI n∧NB n∧newH H Q (.int n))∨((∀n,t=TX.shI n->¬NB n)∧newH H Q .non):=by
 by_cases z:∃n,t=TX.shI n∧NB n
 ·obtain⟨n,e,b⟩:=z
  exact .inl ⟨n,e,b,fun H' s=>h _ H' s (.inr ⟨n,rfl,e,b⟩)⟩
 ·have z':∀n,t=TX.shI n->¬NB n:=fun n e b=>z ⟨n,e,b⟩
  exact .inr ⟨z',fun H' s=>h _ H' s (.inl ⟨rfl,z'⟩)⟩
def spRdR:Sp:=fun vs H Q _=>∃t:List Nat,vs=[.str (TX.S t)]∧t.length<=9000∧(∀f:Int×Int,Frc f->NB f.1->NB f.2->t=shR f->∀r H',Same H H'->H' r=some (T2 f)->Q (.ref r) H')∧((∀f:Int×Int,Frc f->NB f.1->NB f.2->t≠shR f)->newH H Q .non)
theorem ok_read_ratio {P:Program} {w:World} {K:W.Frag} {mg:Str->Option Value} {base:Heap} (T:Tx K mg):FnOk P w K mg base (CXE P w) 3 T.a_read_ratio T.fd_read_ratio ["text"] spRdR:=by
 refine T.F_read_ratio.okE sc_read_ratio (fun vs H Q E h=>?_) (fun cdv A outer s H vs Q E hr h=>?_)
 ·obtain⟨t,rfl,_⟩:=h
  rfl
 obtain⟨t,rfl,ll,qy,qn⟩:=h
 refine⟨_,((pss_cons (PS.nox (ps_set (i:=1) sc_read_ratio.nd rfl (Or.inl rfl) (pe_bm PySem.F.plainAttrs_str PySem.F.slot_str_partition PySem.F.type_str_partition mt_partition (pv 0) (pa_cons pe_str pa_nil))))
  (pss_cons (PS.nox (ps_set (i:=2) sc_read_ratio.nd rfl (Or.inl rfl) (pe_call (FnOk.mono (ok_read_whole T) (by decide)) hr rfl T.m_read_whole T.F_read_whole.kp T.b_read_whole .nil pass0 (pa_cons (pe_ix ix_tup (pv 1) pe_int (fun _ _=>rfl)) pa_nil))))
  (pss_mid (PS.nox (ps_set (i:=3) sc_read_ratio.nd rfl (Or.inl rfl) (pe_ifExp (pt_cmpR op_ne (pe_ix ix_tup (pv 1) pe_int (fun _ _=>rfl)) pe_str (nomark _)) (pe_call (FnOk.mono (ok_read_whole T) (by decide)) hr rfl T.m_read_whole T.F_read_whole.kp T.b_read_whole .nil pass0 (pa_cons (pe_ix ix_tup (pv 1) pe_int (fun _ _=>rfl)) pa_nil)) pe_int)))
  (pss_cons (PS.nox (ps_if (PW.pt (pw_or (pt_cmpR op_isN (pv 2) pe_non (nomark _)) (pw_or (pt_cmpR op_isN (pv 3) pe_non (nomark _)) (pw_or1 (pt_cmpR op_eq (pv 3) pe_int (nomark _)))))) (pss_one (ps_ret pe_non)) pss_nil))
  (pss_cons (ps_set (i:=4) sc_read_ratio.nd rfl (Or.inl rfl) (pe_call (FnOk.mono (ok_ratio T) (by decide)) hr rfl T.m_ratio T.F_ratio.kp T.b_ratio .nil passE (pa_cons (pv 2) (pa_cons (pv 3) pa_nil))))
  (pss_one (PS.nox (ps_ret (pe_ifExp (pt_cmpR op_eq (pe_call (FnOk.mono (ok_show_ratio T) (by decide)) hr rfl T.m_show_ratio T.F_show_ratio.kp T.b_show_ratio .nil pass0 (pa_cons (pv 4) pa_nil)) (pv 0) (nomark _)) (pv 4) pe_non)))))))))),?_⟩
 obtain⟨a,b,c,hp,ha,hb,hc⟩:∃a b c:List Nat,Txt.partition (TX.S t) (TX.S [47])=(TX.S a,TX.S c,TX.S b)∧a.length<=9000∧b.length<=9000∧((c=[47]∧t=a++47 :: b∧47∉a)∨(c=[]∧t=a∧47∉a)):=by
  by_cases z:47∈t
  ·obtain⟨a,b,rfl,ha⟩:=List.eq_append_cons_of_mem z
   simp only [List.length_append,List.length_cons] at ll
   exact⟨a,b,[47],TX.part_yes ha,by omega,by omega,.inl ⟨rfl,rfl,ha⟩⟩
  ·exact⟨t,[],[],TX.part_no z,ll,by simp,.inr ⟨rfl,rfl,z⟩⟩
 obtain⟨M,hM⟩:∃M:L2.St->Hp->Prop,∀σ Hx,M σ Hx↔∃v0 v1 v2,σ=[some (.str (TX.S t)),v0,some v1,some v2,none]∧Same H Hx∧rdv a v1∧((c=[47]∧rdv b v2)∨(c=[]∧v2=.int 1)):=⟨_,fun _ _=>Iff.rfl⟩
 dsimp only [a_seq]
 k_typeOf
 have lS:(TX.S t).length<=100000:=by rw [TX.S_len];omega
 refine⟨by decide,lS,fun p np=>?_⟩
 rw [l_sl,hp]
 obtain⟨H0,e0⟩:∃H0,H0=upd H p (HO.tup [V.str (TX.S a),V.str (TX.S c),V.str (TX.S b)]):=⟨_,rfl⟩
 have s0:Same H H0:=by rw [e0];exact same_upd np _
 have k0:H0 p=some (HO.tup [V.str (TX.S a),V.str (TX.S c),V.str (TX.S b)]):=by rw [e0];exact upd_same
 simp only [← e0]
 dsimp only [a_seq]
 k_typeOf
 refine⟨_,SqT.of k0,_,rfl,a,rfl,ha,rdw_of fun v1 H1 s1 r1=>?_⟩
 have k1:=s1 _ _ k0
 refine mid_of M ?_ ?_
 ·skip
  dsimp only [a_seq]
  k_typeOf
  refine⟨_,SqT.of k1,_,rfl,?_⟩
  rw [a_neS]
  refine⟨_,rfl,ite2 (fun h=>?_) (fun h=>?_)⟩
  ·have h':c≠[]:=fun z=>by rw [decide_eq_true (S_nil.mpr z)] at h;cases h
   refine⟨_,SqT.of k1,_,rfl,b,rfl,hb,rdw_of fun v2 H2 s2 r2=>(hM _ _).mpr ⟨_,_,_,rfl,s0.trans (s1.trans s2),r1,.inl ⟨?_,r2⟩⟩⟩
   rcases hc with hc | hc
   ·exact hc.1
   ·exact absurd hc.1 h'
  ·refine (hM _ _).mpr ⟨_,_,_,rfl,s0.trans s1,r1,.inr ⟨Classical.byContradiction fun z=>h (by rw [decide_eq_false fun e=>z (S_nil.mp e)];rfl),rfl⟩⟩
 intro σ Hx hm
 clear s0 k0 r1 k1 s1 v1 e0 H0 H1
 obtain⟨v0,v1,v2,rfl,sx,r1,r2⟩:=(hM _ _).mp hm
 clear hm hM M
 have key:∀f:Int×Int,NB f.1->NB f.2->t=shR f->v1=.int f.1∧v2=.int f.2:=fun f b1 b2 e=>by
  have h0:a=TX.shI f.1∧((c=[47]∧b=TX.shI f.2)∨(c=[]∧f.2=1)):=by
   rcases hc with ⟨hc,ht,hn⟩ | ⟨hc,ht,hn⟩
   ·rw [ht] at e
    obtain⟨g1,g2,_⟩:=shR_a hn e
    exact⟨g1,.inl ⟨hc,g2⟩⟩
   ·rw [ht] at e
    obtain⟨g1,g2⟩:=shR_b hn e
    exact⟨g1,.inr ⟨hc,g2⟩⟩
  have rd:∀{u:List Nat} {v:V} {n:Int},NB n->u=TX.shI n->rdv u v->v=.int n:=fun bn hu hv=>by
   rcases hv with ⟨_,g⟩ | ⟨m,rfl,g,bm⟩
   ·exact absurd bn (g _ hu)
   ·rw [sh_inj bm (g.symm.trans hu)]
  refine⟨rd b1 h0.1 r1,?_⟩
  rcases h0.2 with ⟨hc',hb'⟩ | ⟨hc',hf⟩
  ·rcases r2 with ⟨_,r2⟩ | ⟨z,_⟩
   ·exact rd b2 hb' r2
   ·rw [hc'] at z;cases z
  ·rcases r2 with ⟨z,_⟩ | ⟨_,r2⟩
   ·rw [hc'] at z;cases z
   ·rw [hf];exact r2
 have w2:v2=.non∨∃n,v2=.int n∧NB n:=by
  rcases r2 with ⟨_,⟨e,_⟩ | ⟨n,e,_,b⟩⟩ | ⟨_,e⟩
  ·exact .inl e
  ·exact .inr ⟨n,e,b⟩
  ·exact .inr ⟨1,e,by unfold NB;decide +kernel⟩
 dsimp only [a_seq]
 k_typeOf
 refine ite2 (fun h=>qn (fun f _ b1 b2 e=>?_) _ sx) (fun h1=>ite2 (fun h=>qn (fun f _ b1 b2 e=>?_) _ sx) (fun h2=>?_))
 ·rw [(key f b1 b2 e).1] at h;cases h
 ·rw [(key f b1 b2 e).2] at h;cases h
 obtain⟨d,rfl,bd⟩:=w2.resolve_left h2
 obtain⟨n,rfl,_,bn⟩:=r1.resolve_left fun z=>h1 z.1
 rw [a_eqI]
 refine⟨_,rfl,ite2 (fun h=>qn (fun f fr b1 b2 e=>?_) _ sx) (fun h3=>?_)⟩
 ·have h5:d=0:=of_decide_eq_true h
  have h6:=V.int.inj (key f b1 b2 e).2
  have:=fr.1
  omega
 have d0:d≠0:=fun z=>h3 (decide_eq_true z)
 dsimp only [a_seq]
 k_typeOf
 refine⟨_,_,rfl,Nat.lt_of_lt_of_le (nb_400 bd) (Nat.pow_le_pow_right (by decide) (by decide)),.inl ⟨d0,fun x y y1 xy e lx ly p np=>?_⟩⟩
 have bx:NB x:=Nat.lt_of_le_of_lt lx bn
 have by':NB y:=Nat.lt_of_le_of_lt ly bd
 have kp:(upd Hx p (HO.tup [V.int x,V.int y])) p=some (T2 (x,y)):=upd_same
 refine⟨p,(x,y),rfl,SqT.of kp,nb_400 bx,nb_400 by',?_⟩
 dsimp only
 rw [a_eqS]
 have sy:=sx.trans (same_upd np (HO.tup [V.int x,V.int y]))
 refine⟨_,rfl,ite2 (fun h=>?_) (fun h=>?_)⟩
 ·exact qy (x,y) ⟨y1,xy⟩ bx by' (TX.S_inj (of_decide_eq_true h)).symm p _ sy kp
 ·refine qn (fun f fr b1 b2 e'=>?_) _ sy
  obtain⟨g1,g2⟩:=key f b1 b2 e'
  obtain⟨rfl,rfl⟩:=fr_one y1 xy fr.1 fr.2 (by rw [← V.int.inj g1,← V.int.inj g2];exact e)
  exact h (decide_eq_true (by rw [e']))
def rp (t:List Nat):List Nat:=t.flatMap fun c=>if c=45 then [43,45] else [c]
theorem rp_app (a b:List Nat):rp (a++b)=rp a++rp b:=by unfold rp;rw [List.flatMap_append]
theorem rp_no:∀{a:List Nat},45∉a->rp a=a
 | [],_=>rfl
 | c :: r,h=>by
  have h1:c≠45:=fun e=>h (by rw [e];exact .head _)
  have h2:=rp_no (a:=r) fun z=>h (.tail _ z)
  unfold rp at h2 ⊢
  rw [List.flatMap_cons,if_neg h1,h2];rfl
theorem rp_len (t:List Nat):(rp t).length<=2 * t.length:=by
 induction t with
 | nil=>simp [rp]
 | cons c r ih=>
  unfold rp at ih ⊢
  rw [List.flatMap_cons,List.length_append,List.length_cons]
  have:(if c=45 then [43,45] else [c]).length<=2:=by split <;> simp
  omega
def spl (c:Nat):List Nat->List (List Nat)
 | []=>[[]]
 | x :: r=>if x=c then [] :: spl c r else ((x :: (spl c r).headD []) :: (spl c r).drop 1)
theorem spl_ne (c:Nat) (t:List Nat):spl c t≠[]:=by
 cases t with
 | nil=>simp [spl]
 | cons x r=>unfold spl;split <;> simp
theorem spl_hd {c:Nat} {t:List Nat}:∃h r,spl c t=h :: r:=by
 cases e:spl c t with
 | nil=>exact absurd e (spl_ne c t)
 | cons h r=>exact⟨h,r,rfl⟩
theorem jn_cons2 {w a b:List Nat} {r:List (List Nat)}:TX.jn w (a :: b :: r)=a++(w++TX.jn w (b :: r)):=by simp [TX.jn]
theorem jn_hd {w h:List Nat} {x:Nat} {r:List (List Nat)}:TX.jn w ((x :: h) :: r)=x :: TX.jn w (h :: r):=by
 cases r with
 | nil=>simp [TX.jn]
 | cons b r=>rw [jn_cons2,jn_cons2];rfl
theorem spl_jn (c:Nat):∀t,TX.jn [c] (spl c t)=t∧∀p∈spl c t,c∉p
 | []=>⟨rfl,fun p hp=>by rw [List.mem_singleton.mp hp];simp⟩
 | x :: r=>by
  obtain⟨h1,h2⟩:=spl_jn c r
  obtain⟨h,tl,e⟩:=spl_hd (c:=c) (t:=r)
  unfold spl
  rw [e] at h1 h2 ⊢
  split
  ·rename_i z
   subst z
   refine⟨by rw [jn_cons2,h1];rfl,fun p hp=>?_⟩
   rcases List.mem_cons.mp hp with rfl | hp
   ·simp
   ·exact h2 p hp
  ·rename_i z
   refine⟨by show TX.jn [c] ((x :: h) :: tl)=_;rw [jn_hd,h1],fun p hp=>?_⟩
   rcases List.mem_cons.mp hp with rfl | hp
   ·intro y
    rcases List.mem_cons.mp y with y | y
    ·exact z y.symm
    ·exact h2 h (.head _) y
   ·exact h2 p (.tail _ hp)
theorem spl_no {c:Nat}:∀{a:List Nat},c∉a->spl c a=[a]
 | [],_=>rfl
 | x :: r,h=>by
  have h1:x≠c:=fun e=>h (by rw [e];exact .head _)
  unfold spl
  rw [if_neg h1,spl_no (a:=r) fun z=>h (.tail _ z)];rfl
theorem spl_app {c:Nat} (b:List Nat):∀a,spl c (a++c :: b)=spl c a++spl c b
 | []=>by
  show (if c=c then [] :: spl c b else _)=_
  rw [if_pos rfl];rfl
 | x :: r=>by
  have ih:=spl_app (c:=c) b r
  obtain⟨h,tl,e⟩:=spl_hd (c:=c) (t:=r)
  rw [e] at ih
  show (if x=c then [] :: spl c (r++c :: b) else ((x :: (spl c (r++c :: b)).headD []) :: (spl c (r++c :: b)).drop 1))=(if x=c then [] :: spl c r else ((x :: (spl c r).headD []) :: (spl c r).drop 1))++_
  rw [ih,e]
  split <;> rfl
theorem split_S {c:Nat} (hc:c < 256) (t:List Nat):Txt.split (TX.S t) (TX.S [c])=(spl c t).map TX.S:=by
 have:=TX.split_jn (w:=[c]) (c:=c) (d:=0) rfl TX.one_get (by simpa using hc) (spl_ne c t) (spl_jn c t).2
 rw [(spl_jn c t).1] at this
 exact this
theorem repl_S (t:List Nat):Txt.replace (TX.S t) (TX.S [45]) (TX.S [43,45])=TX.S (rp t):=by
 have h:=TX.repl_jn (c:=45) (z:=[43,45]) (by decide) (spl_ne 45 t) (spl_jn 45 t).2
 rw [(spl_jn 45 t).1] at h
 rw [h]
 congr 1
 clear h
 induction t with
 | nil=>rfl
 | cons x r ih=>
  obtain⟨h,tl,e⟩:=spl_hd (c:=45) (t:=r)
  rw [e] at ih
  rw [spl,e,show rp (x :: r)=(if x=45 then [43,45] else [x])++rp r from List.flatMap_cons ..,← ih]
  split
  ·rename_i z
   rw [jn_cons2];rfl
  ·show TX.jn _ ((x :: h) :: tl)=_
   rw [jn_hd];rfl
theorem spl_len (c:Nat) (t:List Nat):(spl c t).length<=t.length+1∧∀p∈spl c t,p.length<=t.length:=by
 induction t with
 | nil=>exact⟨by simp [spl],fun p hp=>by rw [List.mem_singleton.mp hp];simp⟩
 | cons x r ih=>
  obtain⟨h,tl,e⟩:=spl_hd (c:=c) (t:=r)
  unfold spl
  rw [e] at ih ⊢
  obtain⟨i1,i2⟩:=ih
  split
  ·refine⟨by simp at *;omega,fun p hp=>?_⟩
   rcases List.mem_cons.mp hp with rfl | hp
   ·simp
   ·have:=i2 p hp;rw [List.length_cons];omega
  ·refine⟨by simp at *;omega,fun p hp=>?_⟩
   rcases List.mem_cons.mp hp with rfl | hp
   ·have:=i2 h (.head _);show (x :: h).length<=_;simp;omega
   ·have:=i2 p (.tail _ hp);rw [List.length_cons];omega
abbrev F3:=Int×Int×Int
def setF (f:F3) (i:Nat) (n:Int):F3:=if i=0 then (n,f.2.1,f.2.2) else if i=1 then (f.1,n,f.2.2) else (f.1,f.2.1,n)
def okP (p:List Nat) (i:Nat) (n:Int):Prop:=i < 3∧NB n∧(n≠0∨i=2)∧p=cntT n (Ltr i)
def Run (N':F3):F3->List (List Nat)->Prop
 | N,[]=>N=N'
 | N,p :: r=>(p=[]∧Run N' N r)∨∃i n,okP p i n∧Run N' (setF N i n) r
theorem run_app {N':F3} {M:F3} {qs:List (List Nat)} (h2:Run N' M qs):∀{ps:List (List Nat)} {N:F3},Run M N ps->Run N' N (ps++qs)
 | [],N,h=>by cases h;exact h2
 | p :: r,N,h=>by
  rcases h with ⟨e,h⟩ | ⟨i,n,o,h⟩
  ·exact .inl ⟨e,run_app h2 h⟩
  ·exact .inr ⟨i,n,o,run_app h2 h⟩
theorem ltr_mem {i c:Nat} (h:c∈Ltr i):c=110∨c=107:=by
 unfold Ltr at h;split at h
 ·simp at h;exact .inl h
 ·split at h
  ·simp at h;exact .inr h
  ·simp at h
theorem cnt_nn {n:Int} (i:Nat) (h:n≠0∨i=2):cntT n (Ltr i)≠[]:=by
 unfold cntT;split
 ·simp [TX.sh_ne]
 ·rename_i z
  have:=not_or.mp z
  split
  ·exact this.1
  ·simp
theorem sh_abs (n:Int):TX.shI n=(if n < 0 then [45] else [])++TX.dg n.natAbs:=by unfold TX.shI;split <;> rfl
theorem cnt_abs (n:Int) (i:Nat) (h:n≠0∨i=2):∃b:List Nat,cntT n (Ltr i)=(if n < 0 then [45] else [])++b∧45∉b∧43∉b:=by
 have lt45:∀{c},c∈Ltr i->c≠45∧c≠43:=fun h=>by rcases ltr_mem h with rfl | rfl <;> decide
 have d45:∀{c},c∈TX.dg n.natAbs->c≠45∧c≠43:=fun h=>by have:=TX.dg_all _ _ h;omega
 unfold cntT;split
 ·refine⟨TX.dg n.natAbs++Ltr i,by rw [sh_abs,List.append_assoc],fun z=>?_,fun z=>?_⟩
  ·rcases List.mem_append.mp z with z | z
   ·exact (d45 z).1 rfl
   ·exact (lt45 z).1 rfl
  ·rcases List.mem_append.mp z with z | z
   ·exact (d45 z).2 rfl
   ·exact (lt45 z).2 rfl
 ·rename_i z
  have:=not_or.mp z
  refine⟨Ltr i,?_,fun z=>(lt45 z).1 rfl,fun z=>(lt45 z).2 rfl⟩
  split
  ·rw [if_neg (by omega)];rfl
  ·have n0:n≠0:=h.resolve_right fun e=>this.1 (by rw [e];rfl)
   rw [if_pos (by omega)];rfl
theorem cnt_43 (n:Int) (i:Nat) (h:n≠0∨i=2):43∉cntT n (Ltr i):=by
 obtain⟨b,e,_,h3⟩:=cnt_abs n i h
 rw [e]
 intro z
 rcases List.mem_append.mp z with z | z
 ·split at z <;> simp at z
 ·exact h3 z
theorem rp_cnt (n:Int) (i:Nat) (h:n≠0∨i=2):rp (cntT n (Ltr i))=(if n < 0 then [43] else [])++cntT n (Ltr i):=by
 obtain⟨b,e,h2,_⟩:=cnt_abs n i h
 rw [e,rp_app,rp_no h2]
 split <;> rfl
def Inv (acc:List Nat) (N:F3):Prop:=(acc=[]∧N=(0,0,0))∨(acc≠[]∧Run N (0,0,0) (spl 43 (rp acc)))
theorem inv_step {acc:List Nat} {N:F3} {n:Int} {i:Nat} (h:Inv acc N) (hi:i < 3) (bn:NB n) (hz:setF N i 0=N):Inv (stepT acc n (Ltr i)) (setF N i n):=by
 unfold stepT
 split
 ·rename_i z;rw [z,hz];exact h
 rename_i z
 have o:okP (cntT n (Ltr i)) i n:=⟨hi,bn,.inl z,rfl⟩
 have ne:=cnt_nn i (.inl z:n≠0∨i=2)
 have h43:=cnt_43 n i (.inl z)
 refine .inr ⟨by simp [ne],?_⟩
 have one:∀M,Run (setF M i n) M [cntT n (Ltr i)]:=fun M=>.inr ⟨i,n,o,rfl⟩
 rw [rp_app,rp_app,rp_cnt n i (.inl z)]
 rcases h with ⟨rfl,rfl⟩ | ⟨ha,h⟩
 ·rw [if_neg (fun z=>z.2 rfl)]
  by_cases neg:n < 0
  ·rw [if_pos neg]
   have e:rp []++(rp []++([43]++cntT n (Ltr i)))=[]++43 :: cntT n (Ltr i):=rfl
   rw [e,spl_app,spl_no h43]
   exact .inl ⟨rfl,one _⟩
  ·rw [if_neg neg]
   have e:rp []++(rp []++([]++cntT n (Ltr i)))=cntT n (Ltr i):=rfl
   rw [e,spl_no h43]
   exact one _
 ·have e:rp (if 0 < n∧acc≠[] then [43] else [])++((if n < 0 then [43] else [])++cntT n (Ltr i))=43 :: cntT n (Ltr i):=by
   by_cases neg:n < 0
   ·rw [if_pos neg,if_neg (fun z=>by omega)];rfl
   ·rw [if_neg neg,if_pos ⟨by omega,ha⟩];rfl
  rw [e,spl_app,spl_no h43]
  exact run_app (one _) h
def NF (f:F3):Prop:=NB f.1∧NB f.2.1∧NB f.2.2
theorem run_form {f:F3} (h:NF f):Run f (0,0,0) (spl 43 (rp (shF f))):=by
 have i0:Inv [] (0,0,0):=.inl ⟨rfl,rfl⟩
 have i1:=inv_step (n:=f.1) (i:=0) i0 (by decide) h.1 rfl
 have i2:=inv_step (n:=f.2.1) (i:=1) i1 (by decide) h.2.1 rfl
 have i3:=inv_step (n:=f.2.2) (i:=2) i2 (by decide) h.2.2 rfl
 have i4:Inv (allT f) f:=i3
 unfold shF
 rcases i4 with ⟨e,e2⟩ | ⟨e,r⟩
 ·rw [if_pos e]
  exact .inr ⟨2,0,⟨by decide,by unfold NB;decide +kernel,.inr rfl,by decide +kernel⟩,e2.symm⟩
 ·rw [if_neg e];exact r
theorem nf_set {N:F3} {j:Nat} {n:Int} (bN:NF N) (bn:NB n):NF (setF N j n):=by
 unfold setF
 split
 ·exact⟨bn,bN.2.1,bN.2.2⟩
 ·split
  ·exact⟨bN.1,bn,bN.2.2⟩
  ·exact⟨bN.1,bN.2.1,bn⟩
theorem setF_l {N:F3} {j:Nat} {n:Int} (hj:j < 3):[V.int N.1,V.int N.2.1,V.int N.2.2].set j (V.int n)=[V.int (setF N j n).1,V.int (setF N j n).2.1,V.int (setF N j n).2.2]:=by
 match j,hj with
 | 0,_=>rfl
 | 1,_=>rfl
 | 2,_=>rfl
theorem ix3 {j:Nat} (hj:j < 3):ixN 3 (j:Int)=some j:=by
 match j,hj with
 | 0,_=>rfl
 | 1,_=>rfl
 | 2,_=>rfl
theorem ltr_ix {j:Nat} (hj:j < 3):(Str.ofString "n" = TX.S (Ltr j)∧j=0)∨(Str.ofString "n" ≠ TX.S (Ltr j)∧Str.ofString "k" = TX.S (Ltr j)∧j=1)∨(Str.ofString "n" ≠ TX.S (Ltr j)∧Str.ofString "k" ≠ TX.S (Ltr j)∧Str.ofString "" = TX.S (Ltr j)∧j=2):=by
 rw [l_n,l_k,l_e]
 simp only [TX.S_eq,ne_eq]
 match j,hj with
 | 0,_=>decide
 | 1,_=>decide
 | 2,_=>decide
theorem at_lastN (q:List Nat) (c:Nat):atI (q++[c]) (-1)=some c:=by
 have hl:0 < (q++[c]).length:=by simp
 unfold atI
 have e:=ixN_neg (n:=(q++[c]).length) (i:=1) (by decide) hl
 have e1:(-((1:Nat):Int))=-1:=rfl
 rw [e1] at e
 rw [e]
 show (q++[c])[(q++[c]).length - 1]?=_
 simp
theorem inV_l (c:Nat):inV (V.str ⟨#[c]⟩) [.str "n",.str "k",.str ""]=decide (c=110∨c=107):=by
 unfold inV
 rw [show ([V.str (Str.ofString "n"),V.str (Str.ofString "k"),V.str (Str.ofString "")].any fun y=>eqV y (V.str ⟨#[c]⟩))=(decide (Str.ofString "n" = TX.S [c]) || (decide (Str.ofString "k" = TX.S [c]) || (decide (Str.ofString "" = TX.S [c]) || false))) by
  simp only [List.any_cons,List.any_nil,eqV]
  rfl]
 rw [l_n,l_k,l_e]
 simp only [TX.S_eq]
 rw [Bool.eq_iff_iff]
 simp
 omega
theorem cnt_last {q:List Nat} {c j:Nat} {n:Int} (o:okP (q++[c]) j n):(j=0∧c=110)∨(j=1∧c=107)∨(j=2∧c≠110∧c≠107):=by
 obtain⟨hj,_,_,e⟩:=o
 have lst:∀d,Ltr j=[d]->c=d:=fun d hd=>by
  obtain⟨x,hx⟩:∃x,cntT n (Ltr j)=x++[d]:=by
   rw [hd];unfold cntT;split
   ·exact⟨_,rfl⟩
   ·split
    ·exact⟨[],rfl⟩
    ·exact⟨[45],rfl⟩
  rw [hx] at e
  exact List.singleton_inj.mp (List.append_inj_right' e rfl)
 match j,hj,e,lst with
 | 0,_,_,lst=>exact .inl ⟨rfl,lst 110 rfl⟩
 | 1,_,_,lst=>exact .inr (.inl ⟨rfl,lst 107 rfl⟩)
 | 2,_,e,_=>
  refine .inr (.inr ⟨rfl,?_⟩)
  have e':q++[c]=TX.shI n:=by
   rw [e];unfold cntT;rw [if_pos (.inl rfl)];exact List.append_nil _
  have hc:c∈TX.shI n:=by rw [← e'];simp
  have:=TX.sh_mem hc
  omega
def spRdF:Sp:=fun vs H Q _=>∃t:List Nat,vs=[.str (TX.S t)]∧t.length<=3000∧(∀f:F3,NF f->t=shF f->∀r H',Same H H'->H' r=some (T3 f)->Q (.ref r) H')∧((∀f:F3,NF f->t≠shF f)->newH H Q .non)
theorem l_pm:Str.ofString "+-" = TX.S [43,45]:=rfl
theorem ok_read_form {P:Program} {w:World} {K:W.Frag} {mg:Str->Option Value} {base:Heap} (T:Tx K mg):FnOk P w K mg base CX0 3 T.a_read_form T.fd_read_form ["text"] spRdF:=by
 refine T.F_read_form.ok sc_read_form (fun vs H Q E h=>?_) (fun cdv A outer s H vs Q E hr h=>?_)
 ·obtain⟨t,rfl,_⟩:=h
  rfl
 obtain⟨t,rfl,ll,qy,qn⟩:=h
 refine⟨_,((pss_consZ (ps_setT (i:=1) sc_read_form.nd rfl rfl (pe_lst (pa_cons pe_int (pa_cons pe_int (pa_cons pe_int pa_nil))))) (ps_forZ PassesOwn.never rfl (pi_listZ (pe_bmZ PySem.F.plainAttrs_str PySem.F.slot_str_split PySem.F.type_str_split mt_split (pe_replZ (i:=0) rfl rfl (by decide) (by decide)) (pa_cons pe_str pa_nil))) (pg_name (i:=2) sc_read_form.nd rfl (Or.inl rfl)) (pss_cons (ps_if (pt_cmpR op_eq (pv 2) pe_str (nomark _)) (pss_one ps_continue) pss_nil)
  (pss_mid (ps_set (i:=3) sc_read_form.nd rfl (Or.inl rfl) (pe_ifExp (pt_cmpR op_in_seq (pe_ix ix_str (pv 2) (pe_un un_neg pe_int) (fun _ _=>rfl)) (pe_glob (v:=.ref T.gt_LETTERS.1) rfl T.gt_LETTERS.2.1 rfl) (by with_unfolding_all rfl)) (pe_ix ix_str (pv 2) (pe_un un_neg pe_int) (fun _ _=>rfl)) pe_str))
  (pss_cons (ps_set (i:=4) sc_read_form.nd rfl (Or.inl rfl) (pe_call (FnOk.mono (ok_read_counted T) (by decide)) hr rfl T.m_read_counted T.F_read_counted.kp T.b_read_counted .nil pass0 (pa_cons (pe_slice sl_str (pv 2) po_none (po_some (pe_op op_sub (pe_callB call_len_str rfl T.z_len bt_len (pa_cons (pv 2) pa_nil)) (pe_callB call_len_str rfl T.z_len bt_len (pa_cons (pv 3) pa_nil))))) (pa_cons (pv 3) pa_nil))))
  (pss_cons (ps_if (pt_cmpR op_isN (pv 4) pe_non (nomark _)) (pss_one (ps_ret pe_non)) pss_nil)
  (pss_one (ps_asg (pv 4) (pg_sub (pv 1) (pe_bm PySem.F.plainAttrs_tuple PySem.F.slot_tuple_index PySem.F.type_tuple_index mt_tindex (pe_glob (v:=.ref T.gt_LETTERS.1) rfl T.gt_LETTERS.2.1 rfl) (pa_cons (pv 3) pa_nil)) set_list))))))))
  (pss_cons (ps_set (i:=5) sc_read_form.nd rfl (Or.inl rfl) (pe_callTy call_tuple_of rfl T.z_tuple bt_tuple (pa_cons (pv 1) pa_nil)))
  (pss_one (ps_ret (pe_ifExp (pt_cmpR op_eq (pe_call (FnOk.mono (ok_show_form T) (by decide)) hr rfl T.m_show_form T.F_show_form.kp T.b_show_form .nil pass0 (pa_cons (pv 5) pa_nil)) (pv 0) (nomark _)) (pv 5) pe_non)))))),?_⟩
 dsimp only [a_seq]
 k_typeOf
 refine⟨by decide,fun p np=>?_⟩
 dsimp only [a_seq]
 k_typeOf
 obtain⟨ps,hps⟩:∃ps,ps=spl 43 (rp t):=⟨_,rfl⟩
 obtain⟨l1,l2⟩:=spl_len 43 (rp t)
 have l3:=rp_len t
 rw [← hps] at l1 l2
 rw [l_mi,l_pm,l_pl,repl_S,split_S (by decide),← hps]
 refine⟨by rw [TX.S_len];omega,by decide,by rw [TX.S_len];omega,by rw [List.length_map];omega,fun D nD=>?_⟩
 obtain⟨nDp,nD'⟩:=upd_none nD
 obtain⟨Pv,hPv⟩:∃Pv:Nat->L2.St->Hp->Prop,∀i σ Hx,Pv i σ Hx↔∃r2 r3 r4 N,σ=[some (.str (TX.S t)),some (.ref p),r2,r3,r4,none]∧Hx p=some (.lst [.int N.1,.int N.2.1,.int N.2.2])∧Hx D=some (.lst ((ps.map TX.S).map V.str))∧Same H Hx∧NF N∧∀f,NF f->t=shF f->Run f N (ps.drop i):=⟨_,fun _ _ _=>Iff.rfl⟩
 refine⟨D,rfl,⟨_,SqL.of upd_same⟩,lp_list (xs:=(ps.map TX.S).map V.str) Pv ((hPv _ _ _).mpr ⟨_,_,_,(0,0,0),rfl,(upd_ne (Ne.symm nDp)).trans upd_same,upd_same,(same_upd np _).trans (same_upd nD _),?_,?_⟩) (fun i σ Hx _ z=>?_) ?_ ?_⟩
 ·refine⟨?_,?_,?_⟩ <;> (show NB 0;unfold NB;decide +kernel)
 ·intro f bf e
  rw [hps,e]
  exact run_form bf
 ·obtain⟨_,_,_,_,_,_,z,_⟩:=(hPv _ _ _).mp z
  exact SqL.of z
 ·intro i v σ Hx e1 z
  obtain⟨r2,r3,r4,N,rfl,kp,kD,sH,bN,rN⟩:=(hPv _ _ _).mp z
  rw [List.getElem?_map,List.getElem?_map] at e1
  obtain⟨y,hy,rfl⟩:=Option.map_eq_some_iff.mp e1
  obtain⟨pc,hpc,rfl⟩:=Option.map_eq_some_iff.mp hy
  have lp:=l2 pc (List.mem_of_getElem? hpc)
  have hdr:ps.drop i=pc :: ps.drop (i+1):=by
   obtain⟨hi,e⟩:=List.getElem?_eq_some_iff.mp hpc
   rw [List.drop_eq_getElem_cons hi,e]
  rw [hdr] at rN
  clear e1 hy z hdr
  dsimp only [a_seq]
  k_typeOf
  simp only [S_nil]
  refine ite2 (fun h=>?_) (fun h=>?_)
  ·refine (hPv _ _ _).mpr ⟨_,_,_,N,rfl,kp,kD,sH,bN,fun f bf e=>?_⟩
   rcases rN f bf e with ⟨_,r⟩ | ⟨j,n,⟨_,_,o,e'⟩,_⟩
   ·exact r
   ·exact absurd (e'.symm.trans h) (cnt_nn j o)
  obtain⟨qc,c,rfl⟩:∃qc c,pc=qc++[c]:=⟨_,_,(List.dropLast_concat_getLast h).symm⟩
  obtain⟨j,lt,hj,rfl,hcj⟩:∃(j:Nat) (lt:List Nat),j < 3∧lt=Ltr j∧((j=0∧c=110)∨(j=1∧c=107)∨(j=2∧c≠110∧c≠107)):=by
   by_cases h1:c=110
   ·exact⟨0,_,by decide,rfl,.inl ⟨rfl,h1⟩⟩
   ·by_cases h2:c=107
    ·exact⟨1,_,by decide,rfl,.inr (.inl ⟨rfl,h2⟩)⟩
    ·exact⟨2,_,by decide,rfl,.inr (.inr ⟨rfl,h1,h2⟩)⟩
  have lS:(TX.S (qc++[c])).length<=100000:=by rw [TX.S_len];omega
  obtain⟨M,hM⟩:∃M:L2.St->Hp->Prop,∀σ Hy,M σ Hy↔σ=[some (.str (TX.S t)),some (.ref p),some (.str (TX.S (qc++[c]))),some (.str (TX.S (Ltr j))),r4,none]∧Hy=Hx:=⟨_,fun _ _=>Iff.rfl⟩
  refine mid_of M ?_ ?_
  ·skip
   dsimp only [a_seq]
   k_typeOf
   have hat:atI (TX.S (qc++[c])).cps.toList (-1)=some c:=by rw [TX.S_list];exact at_lastN _ _
   refine⟨Nat.le_trans lS (by decide),c,hat,_,.inr (T.gt_LETTERS.2.2.1 _),rfl,rfl,?_⟩
   rw [show inV (V.str ⟨#[c]⟩) [.str "n",.str "k",.str ""]=decide (c=110∨c=107) from inV_l c]
   refine ite2 (fun h=>⟨Nat.le_trans lS (by decide),c,hat,(hM _ _).mpr ⟨?_,rfl⟩⟩) (fun h=>(hM _ _).mpr ⟨?_,rfl⟩)
   ·have h':=of_decide_eq_true h
    have e:Ltr j=[c]:=by
     rcases hcj with ⟨rfl,rfl⟩ | ⟨rfl,rfl⟩ | ⟨_,z1,z2⟩
     ·rfl
     ·rfl
     ·exact absurd h' (not_or.mpr ⟨z1,z2⟩)
    rw [e];rfl
   ·have e:j=2:=by
     rcases hcj with ⟨_,z⟩ | ⟨_,z⟩ | ⟨z,_⟩
     ·exact absurd (decide_eq_true (.inl z)) h
     ·exact absurd (decide_eq_true (.inr z)) h
     ·exact z
    rw [e];rfl
  intro σ Hy hm
  obtain⟨rfl,rfl⟩:=(hM _ _).mp hm
  clear hm hM M
  dsimp only [a_seq]
  k_typeOf
  obtain⟨xq,hxq,hxl⟩:∃xq,xq++Ltr j=qc++[c]∧Txt.slice (TX.S (qc++[c])) none (some (↑(TX.S (qc++[c])).length - ↑(TX.S (Ltr j)).length))=TX.S xq:=by
   have ljc:Ltr j=[]∨Ltr j=[c]:=by
    rcases hcj with ⟨rfl,rfl⟩ | ⟨rfl,rfl⟩ | ⟨rfl,_⟩
    ·exact .inr rfl
    ·exact .inr rfl
    ·exact .inl rfl
   have hs:∀k:Nat,k<=(qc++[c]).length->Txt.slice (TX.S (qc++[c])) none (some (((qc++[c]).length:Int) - (k:Int)))=TX.S ((qc++[c]).take ((qc++[c]).length - k)):=fun k hk=>by
    rw [TX.slice_S]
    congr 1
    have e:TX.sx (qc++[c]).length (qc++[c]).length (some (((qc++[c]).length:Int) - (k:Int)))=(qc++[c]).length - k:=by
     show (if _ < 0 then _ else _)=_
     rw [if_neg (by omega)]
     omega
    rw [e];rfl
   rw [TX.S_len,TX.S_len]
   rcases ljc with e | e
   ·refine⟨qc++[c],by rw [e,List.append_nil],?_⟩
    rw [e]
    refine (hs 0 (Nat.zero_le _)).trans ?_
    rw [Nat.sub_zero,List.take_length]
   ·refine⟨qc,by rw [e],?_⟩
    rw [e]
    refine (hs 1 (by simp)).trans ?_
    congr 1
    simp
  rw [hxl]
  have lx:xq.length<=9000:=by
   have:=congrArg List.length hxq
   rw [List.length_append] at this
   omega
  refine⟨Nat.le_trans lS (by decide),by rw [TX.S_len];have:=ltr_len j;exact sl_of (by omega),lS,xq,Ltr j,rfl,lx,fun H1 v s1 hv hk=>?_⟩
  have jj:∀{j' n'},okP (qc++[c]) j' n'->j'=j∧v=.int n':=fun {j' n'} o=>by
   have e:j'=j:=by
    rcases cnt_last o with z | z | z <;> rcases hcj with y | y | y <;> omega
   subst e
   refine⟨rfl,hk n' o.2.1 ?_ (hxq.trans o.2.2.2)⟩
   rcases o.2.2.1 with z | z
   ·exact .inl z
   ·exact .inr (by rw [z];rfl)
  dsimp only [a_seq]
  k_typeOf
  refine ite2 (fun hn=>qn (fun f bf e=>?_) _ (sH.trans s1)) (fun hn=>?_)
  ·rcases rN f bf e with ⟨z,_⟩ | ⟨j',n',o,_⟩
   ·exact h z
   ·have:=(jj o).2
    rw [hn] at this;cases this
  obtain⟨n,rfl,bn⟩:=hv.resolve_left hn
  have hL:SqT K H1 T.gt_LETTERS.1 [.str "n",.str "k",.str ""]:=T.gt_LETTERS.2.2.1 _
  refine⟨.inr (.inl ⟨rfl,T.gt_LETTERS.2.2.2⟩),_,_,_,hL,j,?_,_,s1 _ _ kp,j,?_,(hPv _ _ _).mpr ⟨_,_,_,setF N j n,rfl,?_,?_,?_,?_,fun f bf e=>?_⟩⟩
  ·exact ltr_ix hj
  ·exact ix3 hj
  ·rw [upd_same,setF_l hj]
  ·rw [upd_ne nDp]
   exact s1 _ _ kD
  ·exact (sH.trans s1).more np
  ·exact nf_set bN bn
  ·rcases rN f bf e with ⟨z,_⟩ | ⟨j',n',o,r⟩
   ·exact absurd z h
   ·obtain⟨rfl,g⟩:=jj o
    cases V.int.inj g
    exact r
 ·intro σ Hx z
  obtain⟨r2,r3,r4,N,rfl,kp,kD,sH,bN,rN⟩:=(hPv _ _ _).mp z
  have rN':∀f,NF f->t=shF f->N=f:=fun f bf e=>by
   have:=rN f bf e
   rw [List.drop_of_length_le (by rw [List.length_map,List.length_map];exact Nat.le_refl _)] at this
   exact this
  dsimp only [a_seq]
  k_typeOf
  refine⟨_,.inl ⟨SqL.of kp,fun l nl=>⟨l,N,rfl,SqT.of upd_same,⟨nb_400 bN.1,nb_400 bN.2.1,nb_400 bN.2.2⟩,fun H1 s1=>?_⟩⟩⟩
  dsimp only
  rw [a_eqS]
  have k1:H1 l=some (T3 N):=s1 _ _ upd_same
  have s2:=(sH.trans (same_upd nl _)).trans s1
  refine⟨_,rfl,ite2 (fun h=>qy N bN (TX.S_inj (of_decide_eq_true h)).symm l _ s2 k1) (fun h=>qn (fun f bf e=>?_) _ s2)⟩
  rw [rN' f bf e] at h
  exact h (decide_eq_true (by rw [e]))
theorem jn_len {w:List Nat} (hw:w≠[]):∀ps:List (List Nat),ps.length<=(TX.jn w ps).length+1∧∀p∈ps,p.length<=(TX.jn w ps).length
 | []=>⟨by simp,fun _ h=>nomatch h⟩
 | [p]=>⟨by simp,fun q h=>by rw [List.mem_singleton.mp h];exact Nat.le_refl _⟩
 | p :: q :: r=>by
  obtain⟨h1,h2⟩:=jn_len hw (q :: r)
  have:=List.length_pos_iff.mpr hw
  rw [jn_cons2,List.length_append,List.length_append]
  refine⟨by rw [List.length_cons];omega,fun x hx=>?_⟩
  rcases List.mem_cons.mp hx with rfl | hx
  ·omega
  ·have:=h2 x hx;omega
theorem split_any {w:List Nat} (hw:w≠[]) (t:List Nat):∃ps:List (List Nat),Txt.split (TX.S t) (TX.S w)=ps.map TX.S∧TX.jn w ps=t∧ps.length<=t.length+1∧∀p∈ps,p.length<=t.length:=by
 obtain⟨ps,hp⟩:∃ps:List (List Nat),Txt.split (TX.S t) (TX.S w)=ps.map TX.S:=⟨(Txt.split (TX.S t) (TX.S w)).map fun x=>x.cps.toList,by rw [List.map_map,show (TX.S ∘ fun x:Str=>x.cps.toList)=id from funext fun x=>TX.S_of x,List.map_id]⟩
 have h:=StrLaws.join_split (TX.S t) (TX.S w)
 rw [hp,TX.jn_S] at h
 have e:=TX.S_inj h
 obtain⟨h1,h2⟩:=jn_len hw ps
 rw [e] at h1 h2
 exact⟨ps,hp,e,h1,h2⟩
theorem cl_rel {K:W.Frag} {a:Addr} {xs:List V} {fv:List (Nat×Str)} {te:TE} {Q:VK} {σ:L2.St} {H1:Hp} {D:Addr} (Rl:Nat->V->Hp->Prop) (nD:H1 D=none) (hA:SqL K H1 a xs) (hl:xs.length<=90000)
  (hk:∀i z H H',(∀b ys,H b=some (.tup ys)->H' b=some (.tup ys))->Rl i z H->Rl i z H')
  (hs:∀(i:Nat) (v:V) (Hx:Hp) (R:VK),xs[i]?=some v->Same H1 Hx->(∀z H',Same Hx H'->Rl i z H'->R z H')->te (bst fv σ (some v)) Hx R)
  (he:∀zs:List V,zs.length=xs.length->∀D' H',(∀i z,zs[i]?=some z->Rl i z H')->Same H1 H'->H1 D'=none->H' D'=some (.lst zs)->Q (.ref D') H'):CLoop (Itl K a) fv te Q σ H1 D:=by
 obtain⟨Pc,hPc⟩:∃Pc:Nat->Hp->Prop,∀j Hx,Pc j Hx↔∃zs:List V,zs.length=j∧Hx D=some (.lst zs)∧Same H1 Hx∧∀i z,zs[i]?=some z->Rl i z Hx:=⟨_,fun _ _=>Iff.rfl⟩
 refine cl_list (xs:=xs) Pc ((hPc _ _).mpr ⟨[],rfl,upd_same,same_upd nD _,fun i z h=>nomatch h⟩) (fun i Hx _ z=>by obtain⟨_,_,_,z,_⟩:=(hPc i Hx).mp z;exact z.seq hA) ?_ ?_
 ·intro j v Hx hv hc
  obtain⟨zs,rfl,k1,k3,k4⟩:=(hPc _ _).mp hc
  have hj:zs.length < xs.length:=(List.getElem?_eq_some_iff.mp hv).1
  refine hs _ v Hx _ hv k3 fun z H2 s2 rz=>?_
  have kt:∀b ys,H2 b=some (.tup ys)->(upd H2 D (.lst (zs++[z]))) b=some (.tup ys):=fun b ys e=>by
   rw [upd_ne (fun q=>by rw [q,s2 _ _ k1] at e;cases e)];exact e
  refine⟨_,s2 _ _ k1,Nat.lt_of_le_of_lt (Nat.le_trans (Nat.le_of_lt hj) hl) (by decide),(hPc _ _).mpr ⟨zs++[z],by simp,upd_same,(k3.trans s2).more nD,fun i y hy=>?_⟩⟩
  rw [List.getElem?_append] at hy
  split at hy
  ·exact hk _ _ _ _ kt (hk _ _ _ _ (fun b ys e=>s2 _ _ e) (k4 i y hy))
  ·rename_i hi
   have e0:i - zs.length=0:=by
    have:=(List.getElem?_eq_some_iff.mp hy).1
    simp at this;omega
   rw [e0] at hy
   cases hy
   have:i=zs.length:=by omega
   subst this
   exact hk _ _ _ _ kt rz
 intro Hx hc
 obtain⟨zs,lz,k1,k3,k4⟩:=(hPc _ _).mp hc
 exact he zs lz D Hx k4 k3 nD k1
def spRdP (ok:Prt->Prop) (tx:Prt->List Nat):Sp:=fun vs H Q _=>∃t:List Nat,vs=[.str (TX.S t)]∧t.length<=3000∧(∀p:Prt,ok p->t=tx p->∀r H',Same H H'->PtAt H' r p->Q (.ref r) H')∧((∀p:Prt,ok p->t≠tx p)->newH H Q .non)
def chT:Prt->List Nat
 | .cho f g=>TX.jn [44,32] [shF f,shF g]
 | _=>[]
def chN:Prt->Prop
 | .cho f g=>NF f∧NF g
 | _=>False
theorem l_cs:Str.ofString ", " = TX.S [44,32]:=rfl
theorem sh_44 {f:F3} {c:Nat} (h:c∈shF f):c=43∨c=45∨(48<=c∧c<=57)∨c=110∨c=107:=by
 have hc:∀{n:Int} {i:Nat},c∈cntT n (Ltr i)->c=43∨c=45∨(48<=c∧c<=57)∨c=110∨c=107:=fun {n i} h=>by
  have lm:c∈Ltr i->c=43∨c=45∨(48<=c∧c<=57)∨c=110∨c=107:=fun h=>by have:=ltr_mem h;omega
  unfold cntT at h
  split at h
  ·rcases List.mem_append.mp h with h | h
   ·have:=TX.sh_mem h;omega
   ·exact lm h
  ·split at h
   ·exact lm h
   ·rcases List.mem_cons.mp h with h | h
    ·omega
    ·exact lm h
 have hs:∀{acc:List Nat} {n:Int} {i:Nat},(c∈acc->c=43∨c=45∨(48<=c∧c<=57)∨c=110∨c=107)->c∈stepT acc n (Ltr i)->c=43∨c=45∨(48<=c∧c<=57)∨c=110∨c=107:=fun {acc n i} ha h=>by
  unfold stepT at h
  split at h
  ·exact ha h
  ·rcases List.mem_append.mp h with h | h
   ·exact ha h
   ·rcases List.mem_append.mp h with h | h
    ·split at h
     ·simp at h;omega
     ·simp at h
    ·exact hc h
 unfold shF at h
 split at h
 ·simp at h;omega
 ·exact hs (i:=2) (hs (i:=1) (hs (i:=0) (acc:=[]) (fun h=>nomatch h))) h
def frV (ps:List (List Nat)) (i:Nat) (z:V) (H:Hp):Prop:=(z=.non∧∀f,NF f->ps[i]?≠some (shF f))∨∃r f,z=.ref r∧H r=some (T3 f)∧NF f∧ps[i]?=some (shF f)
theorem ok_read_choose {P:Program} {w:World} {K:W.Frag} {mg:Str->Option Value} {base:Heap} (T:Tx K mg):FnOk P w K mg base CX0 4 T.a_read_choose T.fd_read_choose ["text"] (spRdP chN chT):=by
 refine T.F_read_choose.ok sc_read_choose (fun vs H Q E h=>?_) (fun cdv A outer s H vs Q E hr h=>?_)
 ·obtain⟨t,rfl,_⟩:=h
  rfl
 obtain⟨t,rfl,ll,qy,qn⟩:=h
 refine⟨_,((pss_cons (ps_setC (i:=1) rfl (blkok rfl sub_nil fv_nil) (pi_list (pe_bm PySem.F.plainAttrs_str PySem.F.slot_str_split PySem.F.type_str_split mt_split (pv 0) (pa_cons (pe_glob (v:=.str ", ") rfl T.g_BETWEEN_FORMS.2 ⟨_,rfl⟩) pa_nil))) (fun _ _ _ _=>(pe_call (FnOk.mono (ok_read_form T) (by decide)) hr rfl T.m_read_form T.F_read_form.kp T.b_read_form .nil pass0 (pa_cons (pv 0) pa_nil))) sc_read_choose.nd rfl rfl)
  (pss_cons (ps_if (PW.pt (pw_or (pt_cmpR op_ne (pe_callB call_len_seq rfl T.z_len bt_len (pa_cons (pv 1) pa_nil)) pe_int (nomark _)) (pw_or1 (pt_cmpR (op_noneIn hr.units) pe_non (pv 1) (by with_unfolding_all rfl))))) (pss_one (ps_ret pe_non)) pss_nil)
  (pss_one (ps_ret (pe_tup (pa_cons pe_str (pa_cons (pe_ix ix_list (pv 1) pe_int (fun _ _=>rfl)) (pa_cons (pe_ix ix_list (pv 1) pe_int (fun _ _=>rfl)) pa_nil))))))))),?_⟩
 dsimp only [a_seq]
 k_typeOf
 obtain⟨ps,hp,hj,l1,l2⟩:=split_any (w:=[44,32]) (by simp) t
 rw [l_cs,hp]
 refine⟨by decide,by rw [TX.S_len];omega,by rw [List.length_map];omega,fun A0 nA=>⟨A0,rfl,⟨_,SqL.of upd_same⟩,fun D nD=>?_⟩⟩
 have s0:=same_upd nA (.lst ((ps.map TX.S).map V.str))
 have due:∀p,chN p->t=chT p->∃f g,p=.cho f g∧NF f∧NF g∧ps=[shF f,shF g]:=fun p hp' e=>by
  match p,hp' with
  | .cho f g,hfg=>
   refine⟨f,g,rfl,hfg.1,hfg.2,?_⟩
   have no:∀q∈[shF f,shF g],44∉q:=fun q hq z=>by
    rcases List.mem_cons.mp hq with rfl | hq
    ·have:=sh_44 z;omega
    ·rw [List.mem_singleton.mp hq] at z
     have:=sh_44 z;omega
   have hs:=TX.split_jn (w:=[44,32]) (c:=44) (d:=0) rfl (fun e he=>by
    match e,he with
    | 0,_=>rfl
    | 1,he=>simp at he) (by decide) (by simp) no
   rw [show TX.jn [44,32] [shF f,shF g]=t from e.symm,hp] at hs
   exact List.map_inj_right (fun _ _=>TX.S_inj) |>.mp hs
 refine cl_rel (frV ps) (xs:=(ps.map TX.S).map V.str) nD (SqL.of upd_same) (by rw [List.length_map,List.length_map];omega) ?_ ?_ ?_
 ·rintro i z H1 H2 k (h | ⟨r,f,e,h1,h2⟩)
  ·exact .inl h
  ·exact .inr ⟨r,f,e,k _ _ h1,h2⟩
 ·intro i v Hx R hv sx hR
  rw [List.getElem?_map,List.getElem?_map] at hv
  obtain⟨y,hy,rfl⟩:=Option.map_eq_some_iff.mp hv
  obtain⟨pc,hpc,rfl⟩:=Option.map_eq_some_iff.mp hy
  have lp:=l2 pc (List.mem_of_getElem? hpc)
  (iterate 3 (k_units;(try simp only [bst]));k_units)
  refine⟨pc,rfl,by omega,fun f bf e r H' s' k=>hR _ H' s' (.inr ⟨r,f,rfl,k,bf,by rw [hpc,e]⟩),fun h H' s'=>hR _ H' s' (.inl ⟨rfl,fun f bf e=>?_⟩)⟩
  rw [hpc] at e
  exact h f bf (Option.some.inj e)
 intro zs lz D' H' rl s' nD' kD'
 rw [List.length_map,List.length_map] at lz
 have sH:Same H H':=s0.trans s'
 dsimp only [a_seq]
 k_typeOf
 refine⟨_,.inl (SqL.of kD'),?_⟩
 refine ite2 (fun h=>qn (fun p hp' e=>?_) _ sH) (fun h=>⟨_,SqL.of kD',fun z hz=>?_,ite2 (fun hn=>qn (fun p hp' e=>?_) _ sH) (fun hn=>?_)⟩)
 ·obtain⟨f,g,_,_,_,e2⟩:=due p hp' e
  rw [e2] at lz
  exact h (by rw [lz];rfl)
 ·obtain⟨i,hi⟩:=List.getElem?_of_mem hz
  rcases rl i z hi with ⟨e,_⟩ | ⟨r,f,e,h1,_⟩
  ·exact .inl e
  ·exact .inr ⟨r,e,_,SqT.of h1⟩
 ·obtain⟨f,g,_,bf,bg,e2⟩:=due p hp' e
  obtain⟨z,hz,nz⟩:=List.any_eq_true.mp hn
  obtain⟨i,hi⟩:=List.getElem?_of_mem hz
  have i2:i < 2:=by
   have:=(List.getElem?_eq_some_iff.mp hi).1
   rw [lz,e2] at this
   exact this
  rcases rl i z hi with ⟨_,g1⟩ | ⟨r,f,e,_⟩
  ·rw [e2] at g1
   match i,i2,g1 with
   | 0,_,g1=>exact g1 f bf rfl
   | 1,_,g1=>exact g1 g bg rfl
  ·rw [e] at nz;cases nz
 have l22:zs.length=2:=by omega
 match zs,l22,lz,rl,kD',hn with
 | [z0,z1],_,lz,rl,kD',hn=>
  rcases rl 0 z0 rfl with ⟨e,_⟩ | ⟨r0,f,rfl,k0,bf,e0⟩
  ·rw [e] at hn;exact absurd rfl hn
  rcases rl 1 z1 rfl with ⟨e,_⟩ | ⟨r1,g,rfl,k1,bg,e1⟩
  ·rw [e] at hn;exact absurd rfl hn
  refine⟨_,SqL.of kD',_,rfl,_,SqL.of kD',_,rfl,by decide,fun p np=>?_⟩
  have s9:=same_upd np (HO.tup [V.str (Str.ofString "choose"),.ref r0,.ref r1])
  refine qy (.cho f g) ⟨bf,bg⟩ ?_ p _ (sH.trans s9) ⟨r0,r1,upd_same,s9 _ _ k0,s9 _ _ k1⟩
  match ps,lz,e0,e1,hj with
  | [p0,p1],_,e0,e1,hj=>
   cases Option.some.inj e0
   cases Option.some.inj e1
   exact hj.symm
def prN:Prt->Prop
 | .cho f g=>NF f∧NF g
 | .wei f=>NF f
 | .pow f=>Frc f∧NB f.1∧NB f.2
 | .gro f=>Frc f∧NB f.1∧NB f.2
theorem ite_two {A B:Prop} [Decidable A] [Decidable B] {X R:Prop} (h1:A->B->X) (h2:¬(A∧B)->R):if A then (if B then X else R) else R:=
 ite2 (fun a=>ite2 (fun b=>h1 a b) (fun b=>h2 fun z=>b z.2)) (fun a=>h2 fun z=>a z.1)
theorem wrap {a t:List Nat} {c:Nat} {r:List Nat} (ha:a.isPrefixOf t=true) (hb:(c :: r).isSuffixOf t=true) (hc:c∉a):∃m,t=a++(m++c :: r):=by
 obtain⟨x,hx⟩:=List.isPrefixOf_iff_prefix.mp ha
 obtain⟨y,hy⟩:=List.isSuffixOf_iff_suffix.mp hb
 rcases List.append_eq_append_iff.mp (hx.trans hy.symm) with ⟨a',e1,e2⟩ | ⟨c',e1,e2⟩
 ·exact⟨a',by rw [← e2,hx]⟩
 ·cases c' with
  | nil=>exact⟨[],by rw [← hx,← List.nil_append x,← e2];rfl⟩
  | cons d c'=>
   cases e2
   exact absurd (by rw [e1];simp) hc
theorem wrap_pre (a x:List Nat):a.isPrefixOf (a++x)=true:=List.isPrefixOf_iff_prefix.mpr ⟨x,rfl⟩
theorem wrap_suf (a m b:List Nat):b.isSuffixOf (a++(m++b))=true:=List.isSuffixOf_iff_suffix.mpr ⟨a++m,by rw [List.append_assoc]⟩
theorem wrap_sl (a m:List Nat) (c:Nat) (r:List Nat):Txt.slice (TX.S (a++(m++c :: r))) (some (a.length:Int)) (some (-((c :: r).length:Int)))=TX.S m:=by
 rw [TX.slice_S]
 have e1:TX.sx (a++(m++c :: r)).length 0 (some (a.length:Int))=a.length:=by
  show (if (a.length:Int) < 0 then ((a.length:Int)+((a++(m++c :: r)).length:Int)).toNat else min (a.length:Int).toNat (a++(m++c :: r)).length)=_
  rw [if_neg (by omega)]
  simp
 have e2:TX.sx (a++(m++c :: r)).length (a++(m++c :: r)).length (some (-((c :: r).length:Int)))=a.length+m.length:=by
  show (if (-((c :: r).length:Int)) < 0 then ((-((c :: r).length:Int))+((a++(m++c :: r)).length:Int)).toNat else _)=_
  rw [if_pos (by simp)]
  simp;omega
 rw [e1,e2,List.drop_left,Nat.add_sub_cancel_left,List.take_left]
theorem prT_c (f g:F3):prT (.cho f g)=[67,40]++(TX.jn [44,32] [shF f,shF g]++[41]):=by simp [prT,TX.jn]
theorem prT_w (f:F3):prT (.wei f)=[40]++(shF f++[41]):=rfl
theorem prT_p (f:Int×Int):prT (.pow f)=[91]++(shR f++[93,94,107]):=rfl
theorem prT_g (f:Int×Int):prT (.gro f)=[91]++(shR f++[93,94,110]):=rfl
theorem wrap_inj {a m m' b:List Nat} (h:a++(m++b)=a++(m'++b)):m=m':=List.append_cancel_right (List.append_cancel_left h)
def ptV (t:List Nat) (v:V) (H:Hp):Prop:=((v=.non∨∃r nm,v=.ref r∧H r=some (.tup [nm,.non]))∧∀p,prN p->t≠prT p)∨∃r p nm a,v=.ref r∧PtAt H r p∧H r=some (.tup [nm,.ref a])∧prN p∧t=prT p
theorem l_upk:Str.ofString "]^k" = TX.S [93,94,107]:=rfl
theorem l_upn:Str.ofString "]^n" = TX.S [93,94,110]:=rfl
theorem ok_read_part {P:Program} {w:World} {K:W.Frag} {mg:Str->Option Value} {base:Heap} (T:Tx K mg):FnOk P w K mg base (CXE P w) 5 T.a_read_part T.fd_read_part ["text"] (spRdP prN prT):=by
 refine T.F_read_part.okE sc_read_part (fun vs H Q E h=>?_) (fun cdv A outer s H vs Q E hr h=>?_)
 ·obtain⟨t,rfl,_⟩:=h
  rfl
 obtain⟨t,rfl,ll,qy,qn⟩:=h
 refine⟨_,((pss_cons (PS.nox (ps_if (PW.pt (pw_and (pt_val (pe_bm PySem.F.plainAttrs_str PySem.F.slot_str_startswith PySem.F.type_str_startswith mt_starts (pv 0) (pa_cons pe_str pa_nil))) (pw_and1 (pt_val (pe_bm PySem.F.plainAttrs_str PySem.F.slot_str_endswith PySem.F.type_str_endswith mt_ends (pv 0) (pa_cons pe_str pa_nil)))))) (pss_one (ps_ret (pe_call (FnOk.mono (ok_read_choose T) (by decide)) hr rfl T.m_read_choose T.F_read_choose.kp T.b_read_choose .nil pass0 (pa_cons (pe_slice sl_str (pv 0) (po_some pe_int) (po_some (pe_un un_neg pe_int))) pa_nil)))) pss_nil))
  (pss_cons (PS.nox (ps_set (i:=1) sc_read_part.nd rfl (Or.inl rfl) pe_non))
  (pss_mid (ps_if (PT.nox (PW.pt (pw_and (pt_val (pe_bm PySem.F.plainAttrs_str PySem.F.slot_str_startswith PySem.F.type_str_startswith mt_starts (pv 0) (pa_cons pe_str pa_nil))) (pw_and1 (pt_val (pe_bm PySem.F.plainAttrs_str PySem.F.slot_str_endswith PySem.F.type_str_endswith mt_ends (pv 0) (pa_cons pe_str pa_nil))))))) (pss_one (PS.nox (ps_set (i:=1) sc_read_part.nd rfl (Or.inl rfl) (pe_tup (pa_cons pe_str (pa_cons (pe_call (FnOk.mono (ok_read_form T) (by decide)) hr rfl T.m_read_form T.F_read_form.kp T.b_read_form .nil pass0 (pa_cons (pe_slice sl_str (pv 0) (po_some pe_int) (po_some (pe_un un_neg pe_int))) pa_nil)) pa_nil)))))) (pss_one (ps_if (PT.nox (PW.pt (pw_and (pt_val (pe_bm PySem.F.plainAttrs_str PySem.F.slot_str_startswith PySem.F.type_str_startswith mt_starts (pv 0) (pa_cons pe_str pa_nil))) (pw_and1 (pt_val (pe_bm PySem.F.plainAttrs_str PySem.F.slot_str_endswith PySem.F.type_str_endswith mt_ends (pv 0) (pa_cons pe_str pa_nil))))))) (pss_one (ps_set (i:=1) sc_read_part.nd rfl (Or.inl rfl) (pe_tup (pa_cons pe_str (pa_cons (pe_call (FnOk.mono (ok_read_ratio T) (by decide)) hr rfl T.m_read_ratio T.F_read_ratio.kp T.b_read_ratio .nil passE (pa_cons (pe_slice sl_str (pv 0) (po_some pe_int) (po_some (pe_un un_neg pe_int))) pa_nil)) pa_nil))))) (pss_one (ps_if (PT.nox (PW.pt (pw_and (pt_val (pe_bm PySem.F.plainAttrs_str PySem.F.slot_str_startswith PySem.F.type_str_startswith mt_starts (pv 0) (pa_cons pe_str pa_nil))) (pw_and1 (pt_val (pe_bm PySem.F.plainAttrs_str PySem.F.slot_str_endswith PySem.F.type_str_endswith mt_ends (pv 0) (pa_cons pe_str pa_nil))))))) (pss_one (ps_set (i:=1) sc_read_part.nd rfl (Or.inl rfl) (pe_tup (pa_cons pe_str (pa_cons (pe_call (FnOk.mono (ok_read_ratio T) (by decide)) hr rfl T.m_read_ratio T.F_read_ratio.kp T.b_read_ratio .nil passE (pa_cons (pe_slice sl_str (pv 0) (po_some pe_int) (po_some (pe_un un_neg pe_int))) pa_nil)) pa_nil))))) pss_nil)))))
  (pss_one (PS.nox (ps_ret (pe_ifExp (PW.pt (pw_and (pt_cmpR op_notN (pv 1) pe_non (nomark _)) (pw_and1 (pt_cmpR op_notN (pe_ix ix_tup (pv 1) pe_int (fun _ _=>rfl)) pe_non (nomark _))))) (pv 1) pe_non)))))))),?_⟩
 dsimp only [a_seq]
 k_typeOf
 have lS:(TX.S t).length<=100000:=by rw [TX.S_len];omega
 rw [l_C,l_cl,TX.starts_S,TX.ends_S]
 refine ite_two (fun hA hB=>⟨lS,?_⟩) (fun nC=>?_)
 ·obtain⟨m,rfl⟩:=wrap hA hB (by decide)
  have lm:m.length<=3000:=by simp at ll;omega
  refine⟨m,by rw [← wrap_sl [67,40] m 41 []];rfl,lm,fun p hp e r H' s' h=>?_,fun h=>qn fun p hp e=>?_⟩
  ·match p,hp with
   | .cho f g,hp=>exact qy (.cho f g) hp (by rw [prT_c,e];rfl) r H' s' h
  ·match p,hp with
   | .cho f g,hp=>
    rw [prT_c] at e
    exact h (.cho f g) hp (wrap_inj e)
   | .wei f,hp=>exact absurd (List.cons.inj e).1 (by decide)
   | .pow f,hp=>exact absurd (List.cons.inj e).1 (by decide)
   | .gro f,hp=>exact absurd (List.cons.inj e).1 (by decide)
 have nc:∀f g,t≠prT (.cho f g):=fun f g e=>nC (by rw [e,prT_c];exact⟨wrap_pre _ _,wrap_suf _ _ _⟩)
 obtain⟨M,hM⟩:∃M:L2.St->Hp->Prop,∀σ Hx,M σ Hx↔∃v,σ=[some (.str (TX.S t)),some v]∧Same H Hx∧ptV t v Hx:=⟨_,fun _ _=>Iff.rfl⟩
 dsimp only [a_seq]
 k_typeOf
 refine mid_of M ?_ ?_
 ·skip
  dsimp only [a_seq]
  k_typeOf
  rw [l_op,l_sq,l_upk,l_upn,TX.starts_S,TX.ends_S,TX.starts_S,TX.ends_S,TX.ends_S]
  refine ite_two (fun hA hB=>⟨lS,?_⟩) (fun nW=>ite_two (fun hA hB=>⟨lS,?_⟩) (fun nP=>ite_two (fun hA hB=>⟨lS,?_⟩) (fun nG=>?_)))
  ·obtain⟨m,rfl⟩:=wrap hA hB (by decide)
   have lm:m.length<=3000:=by simp at ll;omega
   refine⟨m,by rw [← wrap_sl [40] m 41 []];rfl,lm,fun f bf e r H1 s1 k=>⟨by decide,fun p np=>(hM _ _).mpr ⟨_,rfl,s1.trans (same_upd np _),.inr ⟨p,.wei f,_,r,rfl,⟨r,upd_same,(same_upd np _) _ _ k⟩,upd_same,bf,by rw [prT_w,e]⟩⟩⟩,fun h H1 s1=>⟨by decide,fun p np=>(hM _ _).mpr ⟨_,rfl,s1.trans (same_upd np _),.inl ⟨.inr ⟨p,_,rfl,upd_same⟩,fun q hq e=>?_⟩⟩⟩⟩
   match q,hq with
   | .cho f g,_=>exact nc f g e
   | .wei f,hq=>exact h f hq (wrap_inj (e.trans (prT_w f)))
   | .pow f,_=>exact absurd (List.cons.inj e).1 (by decide)
   | .gro f,_=>exact absurd (List.cons.inj e).1 (by decide)
  ·obtain⟨m,rfl⟩:=wrap hA hB (by decide)
   have lm:m.length<=9000:=by simp at ll;omega
   refine⟨m,by rw [← wrap_sl [91] m 93 [94,107]];rfl,lm,fun f bf b1 b2 e r H1 s1 k=>⟨by decide,fun p np=>(hM _ _).mpr ⟨_,rfl,s1.trans (same_upd np _),.inr ⟨p,.pow f,_,r,rfl,⟨r,upd_same,(same_upd np _) _ _ k⟩,upd_same,⟨bf,b1,b2⟩,by rw [prT_p,e]⟩⟩⟩,fun h H1 s1=>⟨by decide,fun p np=>(hM _ _).mpr ⟨_,rfl,s1.trans (same_upd np _),.inl ⟨.inr ⟨p,_,rfl,upd_same⟩,fun q hq e=>?_⟩⟩⟩⟩
   match q,hq with
   | .cho f g,_=>exact nc f g e
   | .wei f,hq=>exact absurd (List.cons.inj e).1 (by decide)
   | .pow f,hq=>exact h f hq.1 hq.2.1 hq.2.2 (wrap_inj (e.trans (prT_p f)))
   | .gro f,_=>exact absurd (List.append_inj_right' (List.append_cancel_left (e.trans (prT_g f))) rfl) (by decide)
  ·obtain⟨m,rfl⟩:=wrap hA hB (by decide)
   have lm:m.length<=9000:=by simp at ll;omega
   refine⟨m,by rw [← wrap_sl [91] m 93 [94,110]];rfl,lm,fun f bf b1 b2 e r H1 s1 k=>⟨by decide,fun p np=>(hM _ _).mpr ⟨_,rfl,s1.trans (same_upd np _),.inr ⟨p,.gro f,_,r,rfl,⟨r,upd_same,(same_upd np _) _ _ k⟩,upd_same,⟨bf,b1,b2⟩,by rw [prT_g,e]⟩⟩⟩,fun h H1 s1=>⟨by decide,fun p np=>(hM _ _).mpr ⟨_,rfl,s1.trans (same_upd np _),.inl ⟨.inr ⟨p,_,rfl,upd_same⟩,fun q hq e=>?_⟩⟩⟩⟩
   match q,hq with
   | .cho f g,_=>exact nc f g e
   | .wei f,hq=>exact absurd (List.cons.inj e).1 (by decide)
   | .gro f,hq=>exact h f hq.1 hq.2.1 hq.2.2 (wrap_inj (e.trans (prT_g f)))
   | .pow f,_=>exact absurd (List.append_inj_right' (List.append_cancel_left (e.trans (prT_p f))) rfl) (by decide)
  ·refine (hM _ _).mpr ⟨_,rfl,Same.refl _,.inl ⟨.inl rfl,fun q hq e=>?_⟩⟩
   match q,hq with
   | .cho f g,_=>exact nc f g e
   | .wei f,_=>exact nW (by rw [e,prT_w];exact⟨wrap_pre _ _,wrap_suf _ _ _⟩)
   | .pow f,_=>exact nP (by rw [e,prT_p];exact⟨wrap_pre _ _,wrap_suf _ _ _⟩)
   | .gro f,_=>exact nG (by rw [e,prT_g];exact⟨wrap_pre _ _,wrap_suf _ _ _⟩)
 intro σ Hx hm
 obtain⟨v,rfl,sx,hv⟩:=(hM _ _).mp hm
 clear hm hM M
 k_units
 rcases hv with ⟨rfl | ⟨r,nm,rfl,hr1⟩,hn⟩ | ⟨r,p,nm,a,rfl,hp,hr1,np,e⟩
 ·rw [if_neg (by simp)]
  exact qn hn _ sx
 ·rw [if_pos (by simp)]
  refine⟨_,rfl,_,SqT.of hr1,_,rfl,?_⟩
  rw [if_neg (by simp)]
  exact qn hn _ sx
 ·rw [if_pos (by simp)]
  refine⟨_,rfl,_,SqT.of hr1,_,rfl,?_⟩
  rw [if_pos (by simp)]
  exact qy p np e r _ sx hp
theorem okP_one {p:List Nat} {i i':Nat} {n n':Int} (h:okP p i n) (h':okP p i' n'):i=i'∧n=n':=by
 have pn:p≠[]:=by rw [h.2.2.2];exact cnt_nn i h.2.2.1
 obtain⟨q,c,rfl⟩:∃q c,p=q++[c]:=⟨_,_,(List.dropLast_concat_getLast pn).symm⟩
 have e:i=i':=by
  rcases cnt_last h with z | z | z <;> rcases cnt_last h' with y | y | y <;> omega
 subst e
 refine⟨rfl,?_⟩
 obtain⟨_,b,o,e⟩:=h
 obtain⟨hi,b',o',e'⟩:=h'
 have ee:cntT n (Ltr i)=cntT n' (Ltr i):=e.symm.trans e'
 by_cases l0:Ltr i=[]
 ·rw [l0] at ee
  unfold cntT at ee
  rw [if_pos (.inl rfl),if_pos (.inl rfl),List.append_nil,List.append_nil] at ee
  exact sh_inj b ee
 ·have i2:i≠2:=fun z=>l0 (by rw [z];rfl)
  obtain⟨t,ht⟩:∃t,t++Ltr i=cntT n (Ltr i):=by
   unfold cntT;split
   ·exact⟨_,rfl⟩
   ·split
    ·exact⟨[],rfl⟩
    ·exact⟨[45],rfl⟩
  have c1:=cnt_inv l0 (o.resolve_right i2) ht
  have c2:=cnt_inv l0 (o'.resolve_right i2) (ht.trans ee)
  rcases c1 with ⟨a1,a2⟩ | ⟨a1,a2⟩ | ⟨a1,a2,a3⟩ <;> rcases c2 with ⟨d1,d2⟩ | ⟨d1,d2⟩ | ⟨d1,d2,d3⟩
  ·omega
  ·rw [a1] at d1;cases d1
  ·exact absurd a1 d1
  ·rw [a1] at d1;cases d1
  ·omega
  ·exact absurd a1 d2
  ·exact absurd d1 a1
  ·exact absurd d1 a2
  ·exact sh_inj b (a3.symm.trans d3)
theorem run_det {f g:F3}:∀{ps:List (List Nat)} {N:F3},Run f N ps->Run g N ps->f=g
 | [],_,h,h'=>h.symm.trans h'
 | p :: r,N,h,h'=>by
  rcases h with ⟨e,h⟩ | ⟨i,n,o,h⟩ <;> rcases h' with ⟨e',h'⟩ | ⟨i',n',o',h'⟩
  ·exact run_det h h'
  ·exact absurd (o'.2.2.2.symm.trans e) (cnt_nn i' o'.2.2.1)
  ·exact absurd (o.2.2.2.symm.trans e') (cnt_nn i o.2.2.1)
  ·obtain⟨rfl,rfl⟩:=okP_one o o'
   exact run_det h h'
theorem shF_inj {f g:F3} (hf:NF f) (hg:NF g) (e:shF f=shF g):f=g:=by
 have h:=run_form hf
 rw [e] at h
 exact run_det h (run_form hg)
theorem shR_inj {f g:Int×Int} (b1:NB f.1) (b2:NB f.2) (e:shR f=shR g):f=g:=by
 by_cases z:f.2=1
 ·have e1:shR f=TX.shI f.1:=by unfold shR;rw [if_pos z]
  have h:=shR_b (t:=shR f) (by rw [e1];exact nf47 _) e
  rw [e1] at h
  exact Prod.ext (sh_inj b1 h.1) (by rw [z,h.2])
 ·have e1:shR f=TX.shI f.1++47 :: TX.shI f.2:=by unfold shR;rw [if_neg z]
  obtain⟨h1,h2,_⟩:=shR_a (nf47 _) (e1.symm.trans e)
  exact Prod.ext (sh_inj b1 h1) (sh_inj b2 h2)
theorem prT_inj {p q:Prt} (hp:prN p) (hq:prN q) (e:prT p=prT q):p=q:=by
 match p,q,hp,hq,e with
 | .cho f g,.cho f' g',hp,hq,e=>
  have e':=wrap_inj ((prT_c f g).symm.trans (e.trans (prT_c f' g')))
  have e2:shF f++44 :: (32 :: shF g)=shF f'++44 :: (32 :: shF g'):=by simpa [TX.jn] using e'
  obtain⟨h1,h2⟩:=cut1 (fun z=>by have:=sh_44 z;omega) (fun z=>by have:=sh_44 z;omega) e2
  rw [shF_inj hp.1 hq.1 h1,shF_inj hp.2 hq.2 (List.cons.inj h2).2]
 | .wei f,.wei f',hp,hq,e=>rw [shF_inj hp hq (wrap_inj ((prT_w f).symm.trans (e.trans (prT_w f'))))]
 | .pow f,.pow f',hp,hq,e=>rw [shR_inj hp.2.1 hp.2.2 (wrap_inj ((prT_p f).symm.trans (e.trans (prT_p f'))))]
 | .gro f,.gro f',hp,hq,e=>rw [shR_inj hp.2.1 hp.2.2 (wrap_inj ((prT_g f).symm.trans (e.trans (prT_g f'))))]
 | .cho _ _,.wei _,_,_,e=>exact absurd (List.cons.inj e).1 (by decide)
 | .cho _ _,.pow _,_,_,e=>exact absurd (List.cons.inj e).1 (by decide)
 | .cho _ _,.gro _,_,_,e=>exact absurd (List.cons.inj e).1 (by decide)
 | .wei _,.cho _ _,_,_,e=>exact absurd (List.cons.inj e).1 (by decide)
 | .wei _,.pow _,_,_,e=>exact absurd (List.cons.inj e).1 (by decide)
 | .wei _,.gro _,_,_,e=>exact absurd (List.cons.inj e).1 (by decide)
 | .pow _,.cho _ _,_,_,e=>exact absurd (List.cons.inj e).1 (by decide)
 | .pow _,.wei _,_,_,e=>exact absurd (List.cons.inj e).1 (by decide)
 | .pow f,.gro f',_,_,e=>exact absurd (List.append_inj_right' (List.append_cancel_left ((prT_p f).symm.trans (e.trans (prT_g f')))) rfl) (by decide)
 | .gro _,.cho _ _,_,_,e=>exact absurd (List.cons.inj e).1 (by decide)
 | .gro _,.wei _,_,_,e=>exact absurd (List.cons.inj e).1 (by decide)
 | .gro f,.pow f',_,_,e=>exact absurd (List.append_inj_right' (List.append_cancel_left ((prT_g f).symm.trans (e.trans (prT_p f')))) rfl) (by decide)
theorem prT_42 (p:Prt):42∉prT p:=by
 have hR:∀{f:Int×Int},42∉shR f:=fun {f} z=>by
  unfold shR at z
  split at z
  ·have:=TX.sh_mem z;omega
  ·rcases List.mem_append.mp z with z | z
   ·have:=TX.sh_mem z;omega
   ·rcases List.mem_cons.mp z with z | z
    ·omega
    ·have:=TX.sh_mem z;omega
 have hF:∀{f:F3},42∉shF f:=fun z=>by have:=sh_44 z;omega
 cases p <;> simp [prT,hR,hF]
def prV (pcs:List (List Nat)) (i:Nat) (z:V) (H:Hp):Prop:=(z=.non∧∀p,prN p->pcs[i]?≠some (prT p))∨∃r p,z=.ref r∧PtAt H r p∧prN p∧pcs[i]?=some (prT p)
theorem PtAt.seq {K:W.Frag} {H:Hp} {r:Addr} {p:Prt} (h:PtAt H r p):∃ys,SqT K H r ys:=by
 match p,h with
 | .cho _ _,⟨_,_,h,_⟩=>exact⟨_,SqT.of h⟩
 | .wei _,⟨_,h,_⟩=>exact⟨_,SqT.of h⟩
 | .pow _,⟨_,h,_⟩=>exact⟨_,SqT.of h⟩
 | .gro _,⟨_,h,_⟩=>exact⟨_,SqT.of h⟩
theorem prt_n {p:Prt} (h:PrtOk p):prN p:=by
 match p,h with
 | .cho f g,⟨⟨h1,h2,h3,h4,h5,h6⟩,⟨g1,g2,g3,g4,g5,g6⟩,_⟩=>exact⟨⟨nb_small (by omega),nb_small (by omega),nb_small (by omega)⟩,nb_small (by omega),nb_small (by omega),nb_small (by omega)⟩
 | .wei f,h=>exact h
 | .pow f,⟨h1,_,h3,h4⟩=>exact⟨h1,h3,h4⟩
 | .gro f,⟨h1,_,h3,h4⟩=>exact⟨h1,h3,h4⟩
theorem prn_or {p:Prt} (h:prN p):GOk (.pt p)∨GBad (.pt p):=by
 match p,h with
 | .cho f g,_=>exact Classical.em (ChoOk f g)
 | .wei f,h=>exact .inl h
 | .pow f,h=>exact (Classical.em (f.1=0)).elim .inr fun z=>.inl ⟨h.1,z,h.2.1,h.2.2⟩
 | .gro f,h=>exact (Classical.em (f.1=0)).elim .inr fun z=>.inl ⟨h.1,z,h.2.1,h.2.2⟩
def TOk (t:List Nat) (ps:List Prt):Prop:=1<=ps.length∧ps.length<=6∧(∀p∈ps,PrtOk p)∧t=trT ps
def spRdT {K:W.Frag} {mg:Str->Option Value} (T:Tx K mg):Sp:=fun vs H Q E=>∃t:List Nat,vs=[.str (TX.S t)]∧t.length<=3000∧
 ((∃ps:List Prt,1<=ps.length∧ps.length<=6∧(∀p∈ps,PrtOk p)∧t=trT ps∧∀(x:Addr) (H0 H':Hp) (rs:List Addr),Same H H0->Same H H'->TermAt T H0 H' x rs ps->Pts H' rs ps->Q (.ref x) H')∨
  ((∀ps:List Prt,¬TOk t ps)∧∀H',Same H H'->E (.ref T.c_NoTerm) none H'))
theorem mk_term {K:W.Frag} {mg:Str->Option Value} {T:Tx K mg} {H:Hp} {Q:Addr->Hp->Prop} {E:XK} {A:Addr} {rs:List Addr} {ps:List Prt} (hA:H A=some (.lst (rs.map V.ref))) (hP:Pts H rs ps) (hN:∀p∈ps,prN p)
  (k:((∀p∈ps,PrtOk p)∧1<=ps.length∧ps.length<=6∧∀(x:Addr) (H':Hp),Same H H'->TermAt T H H' x rs ps->Q x H')∨(¬((∀p∈ps,PrtOk p)∧1<=ps.length∧ps.length<=6)∧∀H',Same H H'->E (.ref T.c_NoTerm) none H')) (x dx:Addr) (hx:H x=none) (hd:H dx=none) (_:dx≠x):
  spTInit T [.ref x,.ref A] (L2.upd (L2.upd H dx (.own x)) x (.ins T.c_Term dx [])) (fun v H2=>v=V.non∧Q x H2) E:=by
 have s1:Same H (L2.upd (L2.upd H dx (.own x)) x (.ins T.c_Term dx [])):=same_new hx hd
 refine⟨x,dx,A,rs,ps.map Gp.pt,rfl,upd_same,s1 _ _ hA,(hP.on s1).g,?_⟩
 rcases k with ⟨hO,l1,l6,k⟩ | ⟨nk,k⟩
 ·refine .inl ⟨ps,rfl,hO,l1,l6,fun P1 P2 qs H' s2 n1 n2 ex e1 e2 hq=>⟨rfl,?_⟩⟩
  have s3:Same H H':=fun y o e=>s2 y o (ne_of_none e hx) (s1 y o e)
  exact k x H' s3 ⟨dx,P1,P2,qs,ex,s1.free n1,e1,s1.free n2,e2,hq.from fun y e=>s1.free e⟩
 ·refine .inr ⟨?_,fun H' s2=>k H' fun y o e=>s2 y o (ne_of_none e hx) (s1 y o e)⟩
  rw [List.length_map]
  by_cases z0:ps.length=0
  ·exact .inl z0
  by_cases z6:6 < ps.length
  ·exact .inr (.inl z6)
  refine .inr (.inr ⟨fun g hg=>?_,Classical.byContradiction fun z=>nk ⟨fun p hp=>?_,by omega,by omega⟩⟩)
  ·obtain⟨p,hp,rfl⟩:=List.mem_map.mp hg
   exact prn_or (hN p hp)
  ·rcases prn_or (hN p hp) with h | h
   ·exact h
   ·exact absurd ⟨.pt p,List.mem_map.mpr ⟨p,hp,rfl⟩,h⟩ z
theorem ok_read_term {P:Program} {w:World} {K:W.Frag} {mg:Str->Option Value} {base:Heap} (T:Tx K mg):FnOk P w K mg base (CXE P w) 7 T.a_read_term T.fd_read_term ["text"] (spRdT T):=by
 refine T.F_read_term.okE sc_read_term (fun vs H Q E h=>?_) (fun cdv A outer s H vs Q E hr h=>?_)
 ·obtain⟨t,rfl,_⟩:=h
  rfl
 obtain⟨t,rfl,ll,q⟩:=h
 refine⟨_,((pss_cons (ps_setC (i:=1) rfl (blkok rfl sub_nil fv_nil) (pi_list (pe_bm PySem.F.plainAttrs_str PySem.F.slot_str_split PySem.F.type_str_split mt_split (pv 0) (pa_cons (pe_glob (v:=.str " * ") rfl T.g_BETWEEN_PARTS.2 ⟨_,rfl⟩) pa_nil))) (fun _ _ _ _=>(pe_call (FnOk.mono (ok_read_part T) (by decide)) hr rfl T.m_read_part T.F_read_part.kp T.b_read_part .nil passF (pa_cons (pv 0) pa_nil))) sc_read_term.nd rfl rfl)
  (pss_cons (ps_if (PT.nox (pt_cmpR (op_noneIn hr.units) pe_non (pv 1) (by with_unfolding_all rfl))) (pss_one (ps_raise rfl throwE rfl T.mc_NoTerm T.xc_NoTerm (pa_cons pe_str pa_nil))) pss_nil)
  (pss_one (ps_ret (pe_make T.mk_Term (FnOk.mono (ok_Term___init__ T) (by decide)) hr rfl T.mc_Term T.b_Term___init__ .nil passE (pa_cons (pv 1) pa_nil))))))),?_⟩
 dsimp only [a_seq]
 k_typeOf
 obtain⟨pcs,hp,hj,l1,l2⟩:=split_any (w:=[32,42,32]) (by simp) t
 rw [l_st,hp]
 refine⟨by decide,by rw [TX.S_len];omega,by rw [List.length_map];omega,fun A0 nA=>⟨A0,rfl,⟨_,SqL.of upd_same⟩,fun D nD=>?_⟩⟩
 have s0:=same_upd nA (.lst ((pcs.map TX.S).map V.str))
 have due:∀ps:List Prt,ps≠[]->t=trT ps->pcs=ps.map prT:=fun ps h0 e=>by
  have hs:=TX.split_jn (w:=[32,42,32]) (c:=42) (d:=1) rfl (fun e he=>by
   match e,he with
   | 0,he=>simp at he
   | 1,_=>rfl
   | 2,he=>simp at he) (by decide) (ps:=ps.map prT) (by simpa using h0) (fun q hq=>by
    obtain⟨p,_,rfl⟩:=List.mem_map.mp hq
    exact prT_42 p)
  rw [show TX.jn [32,42,32] (ps.map prT)=t from e.symm,hp] at hs
  exact List.map_inj_right (fun _ _=>TX.S_inj) |>.mp hs
 refine cl_rel (prV pcs) (xs:=(pcs.map TX.S).map V.str) nD (SqL.of upd_same) (by rw [List.length_map,List.length_map];omega) ?_ ?_ ?_
 ·rintro i z H1 H2 k (h | ⟨r,p,e,h1,h2⟩)
  ·exact .inl h
  ·exact .inr ⟨r,p,e,h1.kt k,h2⟩
 ·intro i v Hx R hv sx hR
  rw [List.getElem?_map,List.getElem?_map] at hv
  obtain⟨y,hy,rfl⟩:=Option.map_eq_some_iff.mp hv
  obtain⟨pc,hpc,rfl⟩:=Option.map_eq_some_iff.mp hy
  have lp:=l2 pc (List.mem_of_getElem? hpc)
  (iterate 3 (k_units;(try simp only [bst]));k_units)
  refine⟨pc,rfl,by omega,fun p bp e r H' s' k=>hR _ H' s' (.inr ⟨r,p,rfl,k,bp,by rw [hpc,e]⟩),fun h H' s'=>hR _ H' s' (.inl ⟨rfl,fun p bp e=>?_⟩)⟩
  rw [hpc] at e
  exact h p bp (Option.some.inj e)
 intro zs lz D' H' rl s' nD' kD'
 rw [List.length_map,List.length_map] at lz
 have sH:Same H H':=s0.trans s'
 dsimp only [a_seq]
 k_typeOf
 refine⟨_,SqL.of kD',fun z hz=>?_,ite2 (fun hn=>?_) (fun hn=>?_)⟩
 ·obtain⟨i,hi⟩:=List.getElem?_of_mem hz
  rcases rl i z hi with ⟨e,_⟩ | ⟨r,p,e,h1,_⟩
  ·exact .inl e
  ·exact .inr ⟨r,e,h1.seq⟩
 ·refine⟨by decide,?_⟩
  rcases q with ⟨ps,l1,l6,ok,e,_⟩ | ⟨_,q⟩
  ·exfalso
   have e2:=due ps (fun z=>by rw [z] at l1;simp at l1) e
   obtain⟨z,hz,nz⟩:=List.any_eq_true.mp hn
   obtain⟨i,hi⟩:=List.getElem?_of_mem hz
   rcases rl i z hi with ⟨_,g1⟩ | ⟨r,p,e,_⟩
   ·have i2:i < ps.length:=by
     have:=(List.getElem?_eq_some_iff.mp hi).1
     rw [lz,e2,List.length_map] at this
     exact this
    exact g1 ps[i] (prt_n (ok _ (List.getElem_mem i2))) (by rw [e2,List.getElem?_map,List.getElem?_eq_getElem i2];rfl)
   ·rw [e] at nz;cases nz
  ·exact q _ sH
 have all:∀(i:Nat) (z:V),zs[i]?=some z->∃r p,z=.ref r∧PtAt H' r p∧prN p∧pcs[i]?=some (prT p):=fun i z hi=>by
  rcases rl i z hi with ⟨e,_⟩ | h
  ·exact absurd (List.any_eq_true.mpr ⟨z,List.mem_of_getElem? hi,by rw [e];rfl⟩) hn
  ·exact h
 obtain⟨rs,qs,ez,hQ,nq,eq⟩:∃(rs:List Addr) (qs:List Prt),zs=rs.map V.ref∧Pts H' rs qs∧(∀p∈qs,prN p)∧pcs=qs.map prT:=by
  clear kD' hn rl hj l2 l1 hp due q s' nD nD' s0
  induction zs generalizing pcs with
  | nil=>
   refine⟨[],[],rfl,⟨rfl,fun i r p e=>by simp at e⟩,fun p hp=>(nomatch hp),?_⟩
   exact List.eq_nil_of_length_eq_zero lz.symm
  | cons z zs ih=>
   match pcs,lz with
   | pc :: pcs,lz=>
    obtain⟨r,p,e1,h1,h2,h3⟩:=all 0 z rfl
    obtain⟨rs,qs,e2,h4,h5,h6⟩:=ih (pcs:=pcs) (by simpa using lz) (fun i z hi=>all (i+1) z hi)
    refine⟨r :: rs,p :: qs,by rw [e1,e2];rfl,⟨by simp [h4.len],fun i r' p' e e'=>?_⟩,fun p' hp=>?_,by rw [h6];cases Option.some.inj h3;rfl⟩
    ·cases i with
     | zero=>cases e;cases e';exact h1
     | succ i=>exact h4.get i r' p' e e'
    ·rcases List.mem_cons.mp hp with rfl | hp
     ·exact h2
     ·exact h5 p' hp
 rw [ez] at kD'
 have et:t=trT qs:=by rw [← hj,eq];rfl
 rcases q with ⟨ps,l1,l6,ok,e,q⟩ | ⟨q,ke⟩
 ·have e2:=due ps (fun z=>by rw [z] at l1;simp at l1) e
  have e3:qs=ps:=by
   have e4:=eq.symm.trans e2
   clear e2 eq q l6 e ez hQ l1 et
   induction qs generalizing ps with
   | nil=>exact (List.map_eq_nil_iff.mp e4.symm).symm
   | cons x qs ih=>
    cases ps with
    | nil=>cases e4
    | cons y ps=>
     rw [List.map_cons,List.map_cons] at e4
     obtain⟨h1,h2⟩:=List.cons.inj e4
     rw [prT_inj (nq x (.head _)) (prt_n (ok y (.head _))) h1,ih (fun p hp=>nq p (.tail _ hp)) ps (fun p hp=>ok p (.tail _ hp)) h2]
  subst e3
  refine mk_term kD' hQ nq (.inl ⟨ok,l1,l6,fun x H3 s3 hx=>q x H' H3 rs sH (sH.trans s3) hx (hQ.on s3)⟩)
 ·exact mk_term kD' hQ nq (.inr ⟨fun z=>q qs ⟨z.2.1,z.2.2,z.1,et⟩,fun H3 s3=>ke H3 (sH.trans s3)⟩)
theorem hd_app {a b:List Nat} (h:a≠[]):(a++b).head?=a.head?:=by
 cases a with
 | nil=>exact absurd rfl h
 | cons x a=>rfl
theorem ch_back {c:Nat} (h1:48<=c) (h2:c<=57):(Char.ofNat c).toNat=c:=by
 have key:∀d < 10,(Char.ofNat (48+d)).toNat=48+d:=by decide
 have:=key (c - 48) (by omega)
 rwa [show 48+(c - 48)=c by omega] at this
theorem fg_dg {cs:List Nat} (h:PySem.NumText.AllDigits cs) (ne:cs≠[]) (h0:cs.head?=some 48->cs=[48]):TX.dg (PySem.NumText.digitsVal cs)=cs:=by
 have key:=PySem.NumText.toDigits_digitsVal (cs.length - 1) cs (by have:=List.length_pos_iff.mpr ne;omega) h (by
  match cs,ne,h,h0 with
  | c :: r,_,h,h0=>
   by_cases z:c=48
   ·subst z
    rw [h0 rfl]
    exact .inl rfl
   ·exact .inr ⟨c,r,rfl,by have:=h c (.head _);omega⟩)
 unfold TX.dg
 rw [key,List.map_map]
 conv=>rhs;rw [← List.map_id cs]
 exact List.map_congr_left fun c hc=>ch_back (h c hc).1 (h c hc).2
theorem fg_back {t:List Nat} (h:PySem.NumText.AllDigits (fgT t)) (ne:fgT t≠[]) (h0:(fgT t).head?=some 48->t=[48]):∃n:Int,t=TX.shI n∧n.natAbs=PySem.NumText.digitsVal (fgT t):=by
 have hd:=fg_dg h ne (fun z=>by rw [h0 z];rfl)
 by_cases z:[45].isPrefixOf t=true
 ·obtain⟨r,rfl⟩:=List.isPrefixOf_iff_prefix.mp z
  have e:fgT ([45]++r)=r:=by unfold fgT;rw [if_pos z];rfl
  rw [e] at h ne h0 hd ⊢
  have p:0 < PySem.NumText.digitsVal r:=by
   match r,ne,h,h0 with
   | c :: r,_,h,h0=>
    have hc:=h c (.head _)
    refine PySem.NumText.digitsVal_pos (Nat.lt_of_le_of_ne hc.1 fun y=>?_)
    have:=h0 (by rw [← y];rfl)
    cases this
  refine⟨-((PySem.NumText.digitsVal r:Nat):Int),?_,by omega⟩
  unfold TX.shI
  rw [if_pos (by omega),Int.natAbs_neg,Int.natAbs_natCast,hd]
  rfl
 ·have e:fgT t=t:=by unfold fgT;rw [if_neg z]
  rw [e] at h ne h0 hd ⊢
  refine⟨((PySem.NumText.digitsVal t:Nat):Int),?_,by omega⟩
  unfold TX.shI
  rw [if_neg (by omega),Int.natAbs_natCast,hd]
theorem fg_head (n:Int) (h:(fgT (TX.shI n)).head?=some 48):TX.shI n=[48]:=by
 rw [fg_sh] at h
 have key:∀m:Nat,(TX.dg m).head?=some 48->m=0:=fun m hm=>by
  induction m using Nat.strongRecOn with
  | _ m ih=>
   by_cases z:m < 10
   ·have:∀d < 10,(TX.dg d).head?=some 48->d=0:=by decide
    exact this m z hm
   ·have e:TX.dg m=TX.dg (m / 10)++[(m % 10).digitChar.toNat]:=by
     unfold TX.dg
     rw [Nat.toDigits_of_base_le (by decide) (by omega),List.map_append];rfl
    have:=TX.dg_ne (m / 10)
    rw [e,hd_app this] at hm
    have:=ih (m / 10) (by omega) hm
    omega
 have:=key _ h
 have:n=0:=by omega
 subst this
 decide
def lx (w:List Nat):Nat:=if w.getLast?=some 110 then 0 else if w.getLast?=some 107 then 1 else 2
def sg1 (w:List Nat):Nat:=if w.head?=some 43 then 1 else 0
def lt1 (w:List Nat):Nat:=if lx w < 2 then 1 else 0
def bdy (w:List Nat):List Nat:=(w.drop (sg1 w)).take (w.length - lt1 w - sg1 w)
def bd1 (w:List Nat):List Nat:=if lx w < 2∧(bdy w=[]∨bdy w=[45]) then bdy w++[49] else bdy w
theorem bd_of {sg c lt:List Nat} (h1:sg1 (sg++(c++lt))=sg.length) (h2:lt1 (sg++(c++lt))=lt.length):bdy (sg++(c++lt))=c:=by
 unfold bdy
 rw [h1,h2,List.drop_left]
 have:(sg++(c++lt)).length - lt.length - sg.length=c.length:=by simp;omega
 rw [this,List.take_left]
theorem sh_last (n:Int):(TX.shI n).getLast?≠some 110∧(TX.shI n).getLast?≠some 107:=by
 refine⟨fun h=>?_,fun h=>?_⟩ <;> (have:=TX.sh_mem (List.mem_of_getLast? h);omega)
theorem wd_is {n:Int} {i:Nat} {sg:List Nat} (hi:i < 3) (h:n≠0∨i=2) (hs:sg=[]∨sg=[43]):lx (sg++cntT n (Ltr i))=i∧bd1 (sg++cntT n (Ltr i))=TX.shI n∧sg++cntT n (Ltr i)≠[]∧sg++cntT n (Ltr i)≠[43]:=by
 have cn:=cnt_nn i h
 have c43:=cnt_43 n i h
 have ne:sg++cntT n (Ltr i)≠[]:=fun z=>cn (List.append_eq_nil_iff.mp z).2
 have n43:sg++cntT n (Ltr i)≠[43]:=fun z=>by
  rcases hs with rfl | rfl
  ·exact c43 (by rw [show cntT n (Ltr i)=[43] from z];exact .head _)
  ·exact cn (List.cons.inj z).2
 have sgl:sg1 (sg++cntT n (Ltr i))=sg.length:=by
  unfold sg1
  rcases hs with rfl | rfl
  ·rw [if_neg];rfl
   intro z
   exact c43 (List.mem_of_head? z)
  ·rfl
 have lst:∀d,(cntT n (Ltr i)).getLast?=some d->(sg++cntT n (Ltr i)).getLast?=some d:=fun d hd=>by
  rw [List.getLast?_append,hd];rfl
 have fin:∀(c:List Nat),cntT n (Ltr i)=c++Ltr i->lx (sg++cntT n (Ltr i))=i->(i < 2∧c=[]∧n=1∨i < 2∧c=[45]∧n=-1∨c=TX.shI n)->lx (sg++cntT n (Ltr i))=i∧bd1 (sg++cntT n (Ltr i))=TX.shI n∧sg++cntT n (Ltr i)≠[]∧sg++cntT n (Ltr i)≠[43]:=fun c ec el hc=>by
  refine⟨el,?_,ne,n43⟩
  have l1:lt1 (sg++cntT n (Ltr i))=(Ltr i).length:=by
   unfold lt1;rw [el]
   match i,hi with
   | 0,_=>rfl
   | 1,_=>rfl
   | 2,_=>rfl
  have eb:bdy (sg++cntT n (Ltr i))=c:=by
   rw [ec] at sgl l1 ⊢
   exact bd_of sgl l1
  unfold bd1
  rw [el,eb]
  rcases hc with ⟨h2,rfl,rfl⟩ | ⟨h2,rfl,rfl⟩ | rfl
  ·rw [if_pos ⟨h2,.inl rfl⟩];decide
  ·rw [if_pos ⟨h2,.inr rfl⟩];decide
  ·rw [if_neg (fun z=>z.2.elim (TX.sh_ne n) (sh_45 n))]
 have el:lx (sg++cntT n (Ltr i))=i:=by
  have last1:∀d,Ltr i=[d]->(cntT n (Ltr i)).getLast?=some d:=fun d hd=>by
   rw [hd];unfold cntT
   split
   ·simp
   ·split <;> simp
  unfold lx
  match i,hi,last1,lst with
  | 0,_,last1,lst=>rw [lst 110 (last1 110 rfl),if_pos rfl]
  | 1,_,last1,lst=>rw [lst 107 (last1 107 rfl),if_neg (by decide),if_pos rfl]
  | 2,_,_,_=>
   have e:cntT n (Ltr 2)=TX.shI n:=by unfold cntT;rw [if_pos (.inl rfl)];exact List.append_nil _
   rw [e]
   have:(sg++TX.shI n).getLast?=(TX.shI n).getLast?:=by
    rw [List.getLast?_append]
    cases hh:(TX.shI n).getLast? with
    | none=>exact absurd (List.getLast?_eq_none_iff.mp hh) (TX.sh_ne n)
    | some d=>rfl
   rw [this,if_neg (sh_last n).1,if_neg (sh_last n).2]
 by_cases z:Ltr i=[]∨1 < n.natAbs
 ·exact fin (TX.shI n) (by unfold cntT;rw [if_pos z]) el (.inr (.inr rfl))
 ·have z':=not_or.mp z
  have i2:i < 2:=by
   match i,hi,z' with
   | 0,_,_=>decide
   | 1,_,_=>decide
   | 2,_,z'=>exact absurd rfl z'.1
  have n0:n≠0:=h.resolve_right (by omega)
  by_cases p:0 < n
  ·exact fin [] (by unfold cntT;rw [if_neg z,if_pos p];rfl) el (.inl ⟨i2,rfl,by omega⟩)
  ·exact fin [45] (by unfold cntT;rw [if_neg z,if_neg p];rfl) el (.inr (.inl ⟨i2,rfl,by omega⟩))
def addF (N:F3) (i:Nat) (n:Int):F3:=setF N i (fat N i+n)
def WdN (w:List Nat) (n:Int):Prop:=bd1 w=TX.shI n∧NB n
abbrev WS:=Option (F3×List Nat)
inductive Stp:WS->Nat->WS->Prop
 | non (c:Nat):Stp none c none
 | put {c:Nat} {N:F3} {w:List Nat}:¬((c=43∨c=45)∧w≠[]∧w≠[43])->Stp (some (N,w)) c (some (N,w++[c]))
 | cut {c:Nat} {N:F3} {w:List Nat} {n:Int}:(c=43∨c=45)->w≠[]->w≠[43]->WdN w n->Stp (some (N,w)) c (some (addF N (lx w) n,[c]))
 | bad {c:Nat} {N:F3} {w:List Nat}:(c=43∨c=45)->w≠[]->w≠[43]->(∀n,¬WdN w n)->Stp (some (N,w)) c none
inductive Stps:WS->List Nat->WS->Prop
 | nil (a:WS):Stps a [] a
 | snoc {a b d:WS} {l:List Nat} {c:Nat}:Stps a l b->Stp b c d->Stps a (l++[c]) d
theorem wdn_one {w:List Nat} {n m:Int} (h:WdN w n) (k:WdN w m):n=m:=sh_inj h.2 (h.1.symm.trans k.1)
theorem stp_one {a:WS} {c:Nat} {b d:WS} (h:Stp a c b) (k:Stp a c d):b=d:=by
 cases h with
 | non=>cases k;rfl
 | put n=>cases k with
  | put=>rfl
  | cut a b c=>exact absurd ⟨a,b,c⟩ n
  | bad a b c=>exact absurd ⟨a,b,c⟩ n
 | cut a b c w=>cases k with
  | put n=>exact absurd ⟨a,b,c⟩ n
  | cut _ _ _ w'=>rw [wdn_one w w']
  | bad _ _ _ n=>exact absurd w (n _)
 | bad a b c n=>cases k with
  | put z=>exact absurd ⟨a,b,c⟩ z
  | cut _ _ _ w'=>exact absurd w' (n _)
  | bad=>rfl
theorem stps_one {a b:WS} {l:List Nat} (h:Stps a l b):∀{d:WS},Stps a l d->b=d:=by
 induction h with
 | nil=>intro d k;generalize hl:([]:List Nat)=l at k;cases k with
  | nil=>rfl
  | snoc k1 k2=>simp at hl
 | @snoc b d l c h1 h2 ih=>
  intro e k
  generalize hl:l++[c]=l' at k
  cases k with
  | nil=>simp at hl
  | @snoc b' d' l' c' k1 k2=>
   obtain⟨e1,e2⟩:=List.append_inj' hl rfl
   cases List.singleton_inj.mp e2
   subst e1
   cases ih k1
   exact stp_one h2 k2
theorem stps_none {l m:List Nat} {a:WS} (h:Stps a l none):Stps a (l++m) none:=by
 induction m generalizing l with
 | nil=>rw [List.append_nil];exact h
 | cons c m ih=>
  rw [List.append_cons]
  exact ih (.snoc h (.non c))
theorem stps_run {l m:List Nat} {a:WS} {N:F3} {w:List Nat} (h:Stps a l (some (N,w))) (n1:43∉m) (n2:45∉m):Stps a (l++m) (some (N,w++m)):=by
 induction m generalizing l w with
 | nil=>rw [List.append_nil,List.append_nil];exact h
 | cons c m ih=>
  rw [List.append_cons,List.append_cons w]
  refine ih (.snoc h (.put fun z=>?_)) (fun z=>n1 (.tail _ z)) (fun z=>n2 (.tail _ z))
  rcases z.1 with z | z
  ·exact n1 (by rw [z];exact .head _)
  ·exact n2 (by rw [z];exact .head _)
def Z0:WS:=some ((0,0,0),[])
theorem nb0:NB 0:=by unfold NB;decide +kernel
theorem nf0:NF (0,0,0):=⟨nb0,nb0,nb0⟩
theorem nf_iff {M:F3} {i:Nat} {n:Int} (h:fat M i=0) (hi:i < 3):NF (setF M i n)↔NF M∧NB n:=by
 unfold NF setF fat at *
 match i,hi,h with
 | 0,_,h=>
  have h:M.1=0:=h
  simp only [if_true]
  exact⟨fun z=>⟨⟨by rw [h];exact nb0,z.2.1,z.2.2⟩,z.1⟩,fun z=>⟨z.2,z.1.2.1,z.1.2.2⟩⟩
 | 1,_,h=>
  have h:M.2.1=0:=h
  simp only [show ¬((1:Nat)=0) by decide,if_false,if_true]
  exact⟨fun z=>⟨⟨z.1,by rw [h];exact nb0,z.2.2⟩,z.2.1⟩,fun z=>⟨z.1.1,z.2,z.1.2.2⟩⟩
 | 2,_,h=>
  have h:M.2.2=0:=h
  simp only [show ¬((2:Nat)=0) by decide,show ¬((2:Nat)=1) by decide,if_false]
  exact⟨fun z=>⟨⟨z.1,z.2.1,by rw [h];exact nb0⟩,z.2.2⟩,fun z=>⟨z.1.1,z.1.2.1,z.2⟩⟩
def WInv (acc:List Nat) (N:F3):Prop:=(acc=[]∧N=(0,0,0))∨(acc≠[]∧∃(i:Nat) (n:Int) (sg:List Nat) (M:F3),i < 3∧(n≠0∨i=2)∧(sg=[]∨sg=[43])∧fat M i=0∧N=setF M i n∧
 (NF M->Stps Z0 acc (some (M,sg++cntT n (Ltr i))))∧(¬NF M->Stps Z0 acc none))
theorem winv_cut {acc:List Nat} {N:F3} (h:WInv acc N) (ha:acc≠[]) {c:Nat} (hc:c=43∨c=45):(NF N->Stps Z0 (acc++[c]) (some (N,[c])))∧(¬NF N->Stps Z0 (acc++[c]) none):=by
 obtain⟨i,n,sg,M,hi,hn,hs,hM,rfl,h1,h2⟩:=(h.resolve_left fun z=>ha z.1).2
 obtain⟨w1,w2,w3,w4⟩:=wd_is hi hn hs
 rw [nf_iff hM hi]
 refine⟨fun z=>?_,fun z=>?_⟩
 ·have:=Stps.snoc (h1 z.1) (.cut hc w3 w4 ⟨w2,z.2⟩)
  rw [w1] at this
  unfold addF at this
  rwa [hM,Int.zero_add] at this
 ·by_cases y:NF M
  ·refine .snoc (h1 y) (.bad hc w3 w4 fun m hm=>z ⟨y,?_⟩)
   have e:=sh_inj hm.2 (hm.1.symm.trans w2)
   rw [← e];exact hm.2
  ·exact stps_none (h2 y)
theorem winv_step {acc:List Nat} {N:F3} {n:Int} {i:Nat} (h:WInv acc N) (hi:i < 3) (hz:fat N i=0) (hz':setF N i 0=N):WInv (stepT acc n (Ltr i)) (setF N i n):=by
 unfold stepT
 split
 ·rename_i z;rw [z,hz'];exact h
 rename_i z
 obtain⟨b,eb,b45,b43⟩:=cnt_abs n i (.inl z)
 have cn:=cnt_nn i (.inl z:n≠0∨i=2)
 refine .inr ⟨by simp [cn],?_⟩
 by_cases ha:acc=[]
 ·subst ha
  have hN:N=(0,0,0):=by
   rcases h with h | h
   ·exact h.2
   ·exact absurd rfl h.1
  subst hN
  refine⟨i,n,[],(0,0,0),hi,.inl z,.inl rfl,hz,rfl,fun _=>?_,fun y=>absurd nf0 y⟩
  rw [if_neg (fun y=>y.2 rfl)]
  show Stps Z0 (cntT n (Ltr i)) (some ((0,0,0),cntT n (Ltr i)))
  rw [eb]
  split
  ·exact stps_run (l:=[45]) (w:=[45]) (.snoc (.nil _) (.put fun y=>y.2.1 rfl)) b43 b45
  ·exact stps_run (l:=[]) (w:=[]) (.nil _) b43 b45
 ·by_cases p:0 < n
  ·obtain⟨c1,c2⟩:=winv_cut h ha (c:=43) (.inl rfl)
   refine⟨i,n,[43],N,hi,.inl z,.inr rfl,hz,rfl,fun y=>?_,fun y=>?_⟩
   ·rw [if_pos ⟨p,ha⟩,eb,if_neg (by omega),List.nil_append,← List.append_assoc]
    exact stps_run (c1 y) b43 b45
   ·rw [if_pos ⟨p,ha⟩,← List.append_assoc]
    exact stps_none (c2 y)
  ·obtain⟨c1,c2⟩:=winv_cut h ha (c:=45) (.inr rfl)
   refine⟨i,n,[],N,hi,.inl z,.inl rfl,hz,rfl,fun y=>?_,fun y=>?_⟩
   ·rw [if_neg (fun x=>p x.1),eb,if_pos (by omega),List.nil_append,← List.append_assoc]
    exact stps_run (c1 y) b43 b45
   ·rw [if_neg (fun x=>p x.1),eb,if_pos (by omega),List.nil_append,← List.append_assoc]
    exact stps_none (c2 y)
theorem walk_form (f:F3):(NF f->Stps Z0 (shF f++[43]) (some (f,[43])))∧(¬NF f->Stps Z0 (shF f++[43]) none):=by
 have i0:WInv [] (0,0,0):=.inl ⟨rfl,rfl⟩
 have i1:=winv_step (n:=f.1) (i:=0) i0 (by decide) rfl rfl
 have i2:=winv_step (n:=f.2.1) (i:=1) i1 (by decide) rfl rfl
 have i3:=winv_step (n:=f.2.2) (i:=2) i2 (by decide) rfl rfl
 have i4:WInv (allT f) f:=i3
 unfold shF
 by_cases e:allT f=[]
 ·rw [if_pos e]
  have hf:f=(0,0,0):=by
   rcases i4 with h | h
   ·exact h.2
   ·exact absurd e h.1
  have key:WInv [48] f:=by
   rw [hf]
   refine .inr ⟨by simp,2,0,[],(0,0,0),by decide,.inr rfl,.inl rfl,rfl,rfl,fun _=>?_,fun y=>absurd nf0 y⟩
   have e:cntT 0 (Ltr 2)=[48]:=by decide +kernel
   rw [e]
   exact stps_run (l:=[]) (w:=[]) (.nil _) (by decide) (by decide)
  exact winv_cut key (by simp) (.inl rfl)
 ·rw [if_neg e]
  exact winv_cut i4 e (.inl rfl)
theorem sx_nat (n d k:Nat):TX.sx n d (some (k:Int))=min k n:=by
 show (if (k:Int) < 0 then ((k:Int)+(n:Int)).toNat else min (k:Int).toNat n)=_
 rw [if_neg (by omega),Int.toNat_natCast]
theorem sx_neg (n d k:Nat):TX.sx n d (some (-((k+1:Nat):Int)))=n - (k+1):=by
 show (if (-((k+1:Nat):Int)) < 0 then (-((k+1:Nat):Int)+(n:Int)).toNat else min (-((k+1:Nat):Int)).toNat n)=_
 rw [if_pos (by omega)]
 omega
theorem sl_to (t:List Nat) (k:Nat):Txt.slice (TX.S t) none (some (k:Int))=TX.S (t.take k):=by
 rw [TX.slice_S]
 rw [sx_nat,show TX.sx t.length 0 none=0 from rfl,List.drop_zero,Nat.sub_zero]
 congr 1
 by_cases z:k<=t.length
 ·rw [Nat.min_eq_left z]
 ·rw [Nat.min_eq_right (by omega),List.take_length,List.take_of_length_le (by omega)]
theorem sl_from (t:List Nat) (k:Nat):Txt.slice (TX.S t) (some (k:Int)) none=TX.S (t.drop k):=by
 rw [TX.slice_S]
 rw [sx_nat,show TX.sx t.length t.length none=t.length from rfl]
 congr 1
 by_cases z:k<=t.length
 ·rw [Nat.min_eq_left z,List.take_of_length_le (by rw [List.length_drop];omega)]
 ·rw [Nat.min_eq_right (by omega),List.drop_length,List.drop_of_length_le (by omega)];simp
theorem sl_last (t:List Nat) (k:Nat):Txt.slice (TX.S t) (some (-((k+1:Nat):Int))) none=TX.S (t.drop (t.length - (k+1))):=by
 rw [TX.slice_S]
 rw [sx_neg,show TX.sx t.length t.length none=t.length from rfl,List.take_of_length_le (by rw [List.length_drop];omega)]
theorem sl_btw (t:List Nat) (a b:Nat):Txt.slice (TX.S t) (some (a:Int)) (some (b:Int))=TX.S ((t.drop a).take (b - a)):=by
 rw [TX.slice_S]
 rw [sx_nat,sx_nat]
 congr 1
 by_cases z:a<=t.length
 ·rw [Nat.min_eq_left z]
  by_cases y:b<=t.length
  ·rw [Nat.min_eq_left y]
  ·rw [Nat.min_eq_right (by omega),List.take_of_length_le (by rw [List.length_drop];omega),List.take_of_length_le (by rw [List.length_drop];omega)]
 ·rw [Nat.min_eq_right (show t.length<=a by omega),List.drop_length,List.drop_of_length_le (show t.length<=a by omega)];simp
theorem take_pre {w t:List Nat}:t.take w.length=w↔w.isPrefixOf t=true:=by
 rw [List.isPrefixOf_iff_prefix,List.prefix_iff_eq_take]
 exact⟨fun h=>h.symm,fun h=>h.symm⟩
theorem drop_suf {w t:List Nat} (hw:w≠[]):t.drop (t.length - w.length)=w↔w.isSuffixOf t=true:=by
 rw [List.isSuffixOf_iff_suffix,List.suffix_iff_eq_drop]
 exact⟨fun h=>h.symm,fun h=>h.symm⟩
theorem ok__law_whole_of {P:Program} {w:World} {K:W.Frag} {mg:Str->Option Value} {base:Heap} (T:Tx K mg):FnOk P w K mg base CX0 1 T.a__law_whole_of T.fd__law_whole_of ["_law_line"] spRdW:=by
 refine T.F__law_whole_of.ok sc__law_whole_of (fun vs H Q E h=>?_) (fun cdv A outer s H vs Q E hr h=>?_)
 ·obtain⟨t,rfl,_⟩:=h
  rfl
 obtain⟨t,rfl,lt,q⟩:=h
 refine⟨_,((pss_cons (ps_set (i:=1) sc__law_whole_of.nd rfl (Or.inl rfl) (pv 0))
  (pss_mid (ps_if (pt_cmpR op_eq (pe_slice sl_str (pv 0) po_none (po_some pe_int)) pe_str (nomark _)) (pss_one (ps_set (i:=1) sc__law_whole_of.nd rfl (Or.inl rfl) (pe_slice sl_str (pv 0) (po_some pe_int) po_none))) pss_nil)
  (pss_cons (ps_if (PW.pt (pw_or (pt_cmpR op_eq (pv 1) pe_str (nomark _)) (pw_or (pt_cmpR op_gt (pe_callB call_len_str rfl T.z_len bt_len (pa_cons (pv 1) pa_nil)) pe_int (nomark _)) (pw_or1 (PW.pt (pw_and (pt_cmpR op_eq (pe_ix ix_str (pv 1) pe_int (fun _ _=>rfl)) pe_str (nomark _)) (pw_and1 (pt_cmpR op_ne (pv 0) pe_str (nomark _))))))))) (pss_one (ps_ret pe_non)) pss_nil)
  (pss_cons (ps_for PassesOwn.never rfl (pi_str (pv 1)) (pg_name (i:=2) sc__law_whole_of.nd rfl (Or.inl rfl)) (pss_one (ps_if (pt_cmpR op_notInT (pv 2) pe_str (by with_unfolding_all rfl)) (pss_one (ps_ret pe_non)) pss_nil)))
  (pss_one (ps_ret (pe_callTy call_intS rfl T.z_int bt_int (pa_cons (pv 0) pa_nil))))))))),?_⟩
 dsimp only [a_seq]
 k_typeOf
 obtain⟨M,hM⟩:∃M:L2.St->Hp->Prop,∀σ Hx,M σ Hx↔σ=[some (.str (TX.S t)),some (.str (TX.S (fgT t))),none]∧Hx=H:=⟨_,fun _ _=>Iff.rfl⟩
 have lS:(TX.S t).length<=100000:=by rw [TX.S_len];omega
 have lf:(fgT t).length<=9000:=by
  unfold fgT;split
  ·rw [List.length_drop];omega
  ·exact lt
 refine mid_of M ?_ ?_
 ·k_units
  refine⟨lS,?_⟩
  have e1:=sl_to t 1
  have e2:=sl_from t 1
  rw [show ((1:Nat):Int)=1 from rfl] at e1 e2
  rw [e1,e2,l_mi]
  simp only [TX.S_eq]
  refine ite2 (fun h=>⟨lS,(hM _ _).mpr ⟨?_,rfl⟩⟩) (fun h=>(hM _ _).mpr ⟨?_,rfl⟩)
  ·unfold fgT;rw [if_pos (take_pre (w:=[45]).mp h)]
  ·unfold fgT;rw [if_neg (fun z=>h (take_pre (w:=[45]).mpr z))]
 intro σ Hx hm
 obtain⟨rfl,rfl⟩:=(hM _ _).mp hm
 clear hm hM M
 have no:∀n,t=TX.shI n->NB n->fgT t≠[]∧(fgT t).length<=60∧PySem.NumText.AllDigits (fgT t)∧((fgT t).head?=some 48->t=[48]):=fun n e b=>by
  subst e
  refine⟨?_,?_,?_,fg_head n⟩ <;> rw [fg_sh]
  ·exact TX.dg_ne _
  ·exact TX.dg_len b (by decide)
  ·exact TX.dg_all _
 have bad:¬(fgT t≠[]∧(fgT t).length<=60∧PySem.NumText.AllDigits (fgT t)∧((fgT t).head?=some 48->t=[48]))->Q .non Hx:=fun nb=>by
  rcases q with ⟨n,e,b,_⟩ | ⟨_,q⟩
  ·exact absurd (no n e b) nb
  ·exact q _ (Same.refl _)
 dsimp only [a_seq]
 k_typeOf
 simp only [S_nil,TX.S_len]
 refine ite2 (fun h0=>bad fun z=>z.1 h0) (fun h0=>⟨sl_of (by omega),ite2 (fun h1=>bad fun z=>by omega) (fun h1=>⟨sl_of (by omega),?_⟩)⟩)
 obtain⟨c,r,ec⟩:∃c r,fgT t=c :: r:=List.exists_cons_of_ne_nil h0
 refine⟨c,by rw [TX.S_list,ec];exact atI_nat (j:=0) rfl,?_⟩
 have hz:(({ cps:=#[c] }:Str)=Str.ofString "0")↔c=48:=by
  rw [l_0,show ({ cps:=#[c] }:Str)=TX.S [c] from rfl,TX.S_eq]
  exact⟨fun h=>List.singleton_inj.mp h,fun h=>by rw [h]⟩
 rw [l_0] at hz ⊢
 simp only [hz,TX.S_eq]
 refine ite_two (fun hA hB=>bad fun z=>hB (z.2.2.2 (by rw [ec,hA];rfl))) (fun hC=>?_)
 have h48:(fgT t).head?=some 48->t=[48]:=fun z=>Classical.byContradiction fun y=>hC ⟨by rw [ec] at z;exact Option.some.inj z,y⟩
 dsimp only [a_seq]
 k_typeOf
 obtain⟨Pv,hPv⟩:∃Pv:Nat->L2.St->Hp->Prop,∀i σ Hy,Pv i σ Hy↔∃r2,σ=[some (.str (TX.S t)),some (.str (TX.S (fgT t))),r2]∧Hy=Hx∧∀d∈(fgT t).take i,48<=d∧d<=57:=⟨_,fun _ _ _=>Iff.rfl⟩
 refine lp_str Pv ((hPv _ _ _).mpr ⟨_,rfl,rfl,fun d hd=>(nomatch hd)⟩) ?_ ?_
 ·intro i d σ Hy hd hp
  obtain⟨r2,rfl,rfl,ih⟩:=(hPv _ _ _).mp hp
  rw [TX.S_list] at hd
  k_units
  rw [StrLaws.found_one,l_fig,TX.S_list]
  have hd9:d∈[48,49,50,51,52,53,54,55,56,57]↔48<=d∧d<=57:=by simp;omega
  refine ite2 (fun h=>bad fun z=>?_) (fun h=>(hPv _ _ _).mpr ⟨_,rfl,rfl,fun x hx=>?_⟩)
  ·exact of_decide_eq_false h (hd9.mpr (z.2.2.1 d (List.mem_of_getElem? hd)))
  ·obtain⟨hi,e⟩:=List.getElem?_eq_some_iff.mp hd
   rw [← List.take_append_getElem hi,e] at hx
   rcases List.mem_append.mp hx with hx | hx
   ·exact ih x hx
   ·rw [List.mem_singleton.mp hx]
    exact hd9.mp (of_decide_eq_true (eq_true_of_ne_false h))
 intro σ Hy hp
 obtain⟨r2,rfl,rfl,ih⟩:=(hPv _ _ _).mp hp
 have ad:PySem.NumText.AllDigits (fgT t):=fun d hd=>ih d (by rw [show (TX.S (fgT t)).cps.size=(fgT t).length by simp [TX.S],List.take_length];exact hd)
 obtain⟨n,en,vn⟩:=fg_back ad h0 h48
 have bn:NB n:=by
  unfold NB
  rw [vn]
  exact Nat.lt_of_lt_of_le (dgv_lt ad) (Nat.pow_le_pow_right (by decide) (by omega))
 have l61:t.length<=640:=by have:=sh_len (nb_400 bn);rw [← en] at this;omega
 k_units
 refine⟨by rw [TX.S_len];exact l61,n,by rw [en];exact TX.int_S (by rw [← en];exact l61),?_⟩
 rcases q with ⟨m,e',b,q⟩ | ⟨q,_⟩
 ·rw [sh_inj bn (en.symm.trans e')]
  exact q _ (Same.refl _)
 ·exact absurd bn (q n en)
def spLFT (K:W.Frag):Sp:=fun vs H Q _=>∃(p:Addr) (f:F3),vs=[.ref p]∧(SqL K H p [.int f.1,.int f.2.1,.int f.2.2]∨SqT K H p [.int f.1,.int f.2.1,.int f.2.2])∧FBd f 400∧newH H Q (.str (TX.S (shF f)))
theorem jn_nil:∀ws:List (List Nat),TX.jn [] ws=ws.flatten
 | []=>rfl
 | [p]=>by simp [TX.jn]
 | p :: q :: r=>by rw [jn_cons2,jn_nil (q :: r)];simp
def dTs (ws:List (List Nat)):List PyData:=ws.map fun w=>.str (TX.S w)
theorem dv_ts {K:W.Frag} {H:Hp}:∀ws:List (List Nat),DVs K H ((ws.map TX.S).map V.str) (dTs ws)
 | []=>.nil
 | w :: r=>.cons (.str _) (dv_ts r)
theorem ts_ok (ws:List (List Nat)) (hs:∀w∈ws,PyData.strOk (TX.S w)=true):(PyData.list (dTs ws)).canLay0=true∧(PyData.list (dTs ws)).depth<=64:=by
 have h:PyData.canLayAll0 (dTs ws)=true∧PyData.depthAll (dTs ws)<=60:=by
  induction ws with
  | nil=>exact⟨rfl,Nat.zero_le _⟩
  | cons w ws ih=>
   obtain⟨i1,i2⟩:=ih fun w hw=>hs w (.tail _ hw)
   refine⟨by simp only [dTs,List.map_cons,PyData.canLayAll0,PyData.canLay0,hs w (.head _),Bool.true_and];exact i1,?_⟩
   simp only [dTs,List.map_cons,PyData.depthAll,PyData.depth]
   simp only [dTs] at i2
   omega
 refine⟨by simp [PyData.canLay0,h.1],?_⟩
 simp only [PyData.depth]
 have:=h.2
 omega
theorem str_ok {w:List Nat} (h:∀c∈w,c < 128):PyData.strOk (TX.S w)=true:=by
 unfold PyData.strOk
 rw [Array.all_eq_true']
 intro c hc
 have:c∈w:=by simpa [TX.S] using hc
 have:=h c this
 exact decide_eq_true (by omega)
theorem ts_nil (ws:List (List Nat)):PyData.eqv (.list (dTs ws)) (.list [])=true↔ws=[]:=by
 cases ws with
 | nil=>exact⟨fun _=>rfl,fun _=>rfl⟩
 | cons w r=>exact⟨fun h=>by simp [dTs,PyData.eqv,PyData.eqvAll] at h,fun h=>nomatch h⟩
theorem abs_one {n:Int} (h:(if n < 0 then -n else n)=1):n=1∨n=-1:=by split at h <;> omega
theorem ok__law_form_text {P:Program} {w:World} {K:W.Frag} {mg:Str->Option Value} {base:Heap} (T:Tx K mg):FnOk P w K mg base CX0 1 T.a__law_form_text T.fd__law_form_text ["_law_form"] (spLFT K):=by
 refine T.F__law_form_text.ok sc__law_form_text (fun vs H Q E h=>?_) (fun cdv A outer s H vs Q E hr h=>?_)
 ·obtain⟨p,f,rfl,_⟩:=h
  rfl
 obtain⟨p,f,rfl,hp,bf,q⟩:=h
 refine⟨_,((pss_cons (ps_set (i:=1) sc__law_form_text.nd rfl (Or.inl rfl) (pe_lst pa_nil))
  (pss_cons (ps_for PassesOwn.never rfl (pi_range1 rfl T.z_range (pa_cons pe_int pa_nil)) (pg_name (i:=2) sc__law_form_text.nd rfl (Or.inl rfl)) (pss_cons (ps_set (i:=3) sc__law_form_text.nd rfl (Or.inl rfl) (pe_callTy call_str_int rfl T.z_str bt_str (pa_cons (pe_ix ix_either (pv 0) (pv 2) (fun _ _=>rfl)) pa_nil)))
  (pss_mid (ps_if (PW.pt (pw_and (pt_cmpR op_lt (pv 2) pe_int (nomark _)) (pw_and (pt_cmpR op_eq (pe_slice sl_str (pv 3) (po_some (pe_un un_neg pe_int)) po_none) pe_str (nomark _)) (pw_and1 (pt_cmpR op_eq (pe_callB call_abs rfl T.z_abs bt_abs (pa_cons (pe_ix ix_either (pv 0) (pv 2) (fun _ _=>rfl)) pa_nil)) pe_int (nomark _)))))) (pss_one (ps_set (i:=3) sc__law_form_text.nd rfl (Or.inl rfl) (pe_slice sl_str (pv 3) po_none (po_some (pe_un un_neg pe_int))))) pss_nil)
  (pss_mid (ps_if (PW.pt (pw_and (pt_cmpR op_gt (pe_ix ix_either (pv 0) (pv 2) (fun _ _=>rfl)) pe_int (nomark _)) (pw_and1 (pt_cmpR op_gt (pe_callB call_len_seq rfl T.z_len bt_len (pa_cons (pv 1) pa_nil)) pe_int (nomark _))))) (pss_one (ps_set (i:=3) sc__law_form_text.nd rfl (Or.inl rfl) (pe_op op_catS pe_str (pv 3)))) pss_nil)
  (pss_one (ps_if (pt_cmpR op_ne (pe_ix ix_either (pv 0) (pv 2) (fun _ _=>rfl)) pe_int (nomark _)) (pss_one (ps_expr (pe_bm PySem.F.plainAttrs_list PySem.F.slot_list_append PySem.F.type_list_append mt_append (pv 1) (pa_cons (pe_op op_catS (pv 3) (pe_ix ix_list (pe_lst (pa_cons pe_str (pa_cons pe_str (pa_cons pe_str pa_nil)))) (pv 2) (fun _ _=>rfl))) pa_nil)))) pss_nil))))))
  (pss_cons (ps_if (pt_cmpR (op_eqD hr.units) (pv 1) (pe_lst pa_nil) (nomark _)) (pss_one (ps_ret pe_str)) pss_nil)
  (pss_one (ps_ret (pe_bm PySem.F.plainAttrs_str PySem.F.slot_str_join PySem.F.type_str_join mt_join pe_str (pa_cons (pv 1) pa_nil)))))))),?_⟩
 dsimp only [a_seq]
 k_typeOf
 refine⟨by decide,fun L nL=>?_⟩
 dsimp only [a_seq]
 k_typeOf
 have hF:SqL K H p ([0,1,2].map fun i=>V.int (fat f i))∨SqT K H p ([0,1,2].map fun i=>V.int (fat f i)):=hp
 obtain⟨Pv,hPv⟩:∃Pv:Nat->L2.St->Hp->Prop,∀i σ Hx,Pv i σ Hx↔∃(r2 r3:Option V) (ws:List (List Nat)),σ=[some (.ref p),some (.ref L),r2,r3]∧Hx L=some (.lst ((ws.map TX.S).map V.str))∧Same H Hx∧ws.flatten=upT f i∧(ws=[]↔upT f i=[])∧ws.length<=i∧∀w∈ws,w.length<=140:=⟨_,fun _ _ _=>Iff.rfl⟩
 refine⟨by decide,by decide,lp_range Pv ((hPv _ _ _).mpr ⟨_,_,[],rfl,upd_same,same_upd nL _,rfl,⟨fun _=>rfl,fun _=>rfl⟩,Nat.le_refl _,fun w hw=>(nomatch hw)⟩) ?_ ?_⟩
 ·intro i σ Hx hi z
  obtain⟨r2,r3,ws,rfl,kL,sH,ef,ee,lw,bw⟩:=(hPv _ _ _).mp z
  have i3:i < 3:=hi
  clear z
  have hF1:SqL K Hx p ([0,1,2].map fun i=>V.int (fat f i))∨SqT K Hx p ([0,1,2].map fun i=>V.int (fat f i)):=hF.imp (fun z=>Same.seq sH z) (fun z=>Same.seqT sH z)
  have hat:atI ([0,1,2].map fun i=>V.int (fat f i)) (0+(i:Int))=some (V.int (fat f i)):=by
   match i,i3 with
   | 0,_=>rfl
   | 1,_=>rfl
   | 2,_=>rfl
  have bn:=fat_bd bf i
  have us:upT f (i+1)=stepT (upT f i) (fat f i) (Ltr i):=rfl
  generalize fat f i=n at hat bn us
  k_units
  refine⟨_,hF1,_,hat,_,rfl,log_of bn (by decide) (by decide),?_⟩
  rw [TX.toS]
  have lsh:=sh_len bn
  obtain⟨M1,hM1⟩:∃M1:L2.St->Hp->Prop,∀σ Hy,M1 σ Hy↔∃w1:List Nat,σ=[some (.ref p),some (.ref L),some (.int (0+(i:Int))),some (.str (TX.S w1))]∧Hy=Hx∧w1.length<=122∧(n≠0->w1++Ltr i=cntT n (Ltr i)):=⟨_,fun _ _=>Iff.rfl⟩
  refine mid_of M1 ?_ ?_
  ·k_units
   have lS:(TX.S (TX.shI n)).length<=100000:=by rw [TX.S_len];omega
   have fin:¬((i:Int) < 2∧(n=1∨n=-1))->M1 [some (V.ref p),some (V.ref L),some (V.int (0+↑i)),some (V.str (TX.S (TX.shI n)))] Hx:=fun hn=>(hM1 _ _).mpr ⟨_,rfl,rfl,lsh,fun n0=>by
    unfold cntT
    by_cases i2:i=2
    ·rw [i2];rw [if_pos (.inl rfl)]
    ·rw [if_pos (.inr (by omega))]⟩
   have one:∀m:Int,(m=1∨m=-1)->Txt.slice (TX.S (TX.shI m)) (some (-1)) none=Str.ofString "1" := fun m hm=>by
    rcases hm with rfl | rfl
    ·rw [show TX.shI 1=[49] by decide +kernel];decide +kernel
    ·rw [show TX.shI (-1)=[45,49] by decide +kernel];decide +kernel
   refine ite2 (fun h2=>⟨lS,ite2 (fun h1=>⟨_,hF1,_,hat,_,rfl,ite2 (fun ha=>⟨lS,?_⟩) (fun ha=>fin fun z=>ha ?_)⟩) (fun h1=>fin fun z=>h1 (one n z.2))⟩) (fun h2=>fin fun z=>h2 (by omega))
   ·refine (hM1 _ _).mpr ?_
    have lt0:Ltr i≠[]:=by
     match i,i3,h2 with
     | 0,_,_=>decide
     | 1,_,_=>decide
    rcases abs_one ha with rfl | rfl
    ·refine⟨[],?_,rfl,by simp,fun _=>?_⟩
     ·rw [show TX.shI 1=[49] by decide +kernel,TX.slice_S];rfl
     ·unfold cntT;rw [if_neg (by simp [lt0]),if_pos (by decide)];rfl
    ·refine⟨[45],?_,rfl,by simp,fun _=>?_⟩
     ·rw [show TX.shI (-1)=[45,49] by decide +kernel,TX.slice_S];rfl
     ·unfold cntT;rw [if_neg (by simp [lt0]),if_neg (by decide)];rfl
   ·rcases z.2 with rfl | rfl <;> rfl
  intro σ Hy hm
  obtain⟨w1,rfl,rfl,l1,e1⟩:=(hM1 _ _).mp hm
  clear hm hM1 M1
  obtain⟨M2,hM2⟩:∃M2:L2.St->Hp->Prop,∀σ Hx,M2 σ Hx↔∃w2:List Nat,σ=[some (.ref p),some (.ref L),some (.int (0+(i:Int))),some (.str (TX.S w2))]∧Hx=Hy∧w2.length<=123∧(n≠0->w2++Ltr i=(if 0 < n∧upT f i≠[] then [43] else [])++cntT n (Ltr i)):=⟨_,fun _ _=>Iff.rfl⟩
  refine mid_of M2 ?_ ?_
  ·k_units
   have wl:0 < (((ws.map TX.S).map V.str).length:Int)↔upT f i≠[]:=by
    rw [List.length_map,List.length_map]
    refine⟨fun h e=>?_,fun h=>?_⟩
    ·rw [ee.mpr e] at h;simp at h
    ·have:=List.length_pos_iff.mpr (fun z=>h (ee.mp z));omega
   refine⟨_,hF1,_,hat,_,rfl,ite2 (fun h=>⟨_,.inl (SqL.of kL),ite2 (fun h2=>⟨?_,?_⟩) (fun h2=>?_)⟩) (fun h=>?_)⟩
   ·rw [l_pl,TX.S_len,TX.S_len];exact sl_of (by simp;omega)
   ·rw [l_pl,TX.S_app]
    refine (hM2 _ _).mpr ⟨_,rfl,rfl,by simp;omega,fun n0=>?_⟩
    rw [if_pos ⟨h,wl.mp h2⟩,List.append_assoc,e1 n0]
   ·refine (hM2 _ _).mpr ⟨_,rfl,rfl,by omega,fun n0=>?_⟩
    rw [if_neg (fun z=>h2 (wl.mpr z.2)),e1 n0];rfl
   ·refine (hM2 _ _).mpr ⟨_,rfl,rfl,by omega,fun n0=>?_⟩
    rw [if_neg (fun z=>h z.1),e1 n0];rfl
  intro σ Hx hm
  obtain⟨w2,rfl,rfl,l2,e2⟩:=(hM2 _ _).mp hm
  clear hm hM2 M2
  k_units
  refine⟨_,hF1,_,hat,?_⟩
  rw [a_neI]
  refine⟨_,rfl,ite2 (fun h=>?_) (fun h=>?_)⟩
  ·have n0:n≠0:=fun z=>by rw [z] at h;cases h
   refine⟨a_tyL (SqL.of kL),by decide,fun B nB=>⟨_,SqL.of upd_same,.str (TX.S (Ltr i)),?_,_,rfl,?_,_,same_upd nB _ _ _ kL,?_,?_⟩⟩
   ·match i,i3 with
    | 0,_=>rfl
    | 1,_=>rfl
    | 2,_=>rfl
   ·have:=ltr_len i
    rw [TX.S_len,TX.S_len];exact sl_of (by omega)
   ·rw [List.length_map,List.length_map];exact small1000 (by omega)
   ·rw [TX.S_app,e2 n0]
    refine (hPv _ _ _).mpr ⟨_,_,ws++[(if 0 < n∧upT f i≠[] then [43] else [])++cntT n (Ltr i)],rfl,by rw [upd_same];simp,(sH.trans (same_upd nB _)).more nL,?_,?_,by simp;omega,fun w hw=>?_⟩
    ·rw [us];unfold stepT;rw [if_neg n0,List.flatten_append,ef];simp
    ·have c0:=cnt_nn i (.inl n0:n≠0∨i=2)
     rw [us];unfold stepT;rw [if_neg n0]
     exact⟨fun z=>by simp at z,fun z=>by simp [c0] at z⟩
    ·rcases List.mem_append.mp hw with hw | hw
     ·exact bw w hw
     ·rw [List.mem_singleton.mp hw,← e2 n0]
      have:=ltr_len i
      simp;omega
  ·have n0:n=0:=Classical.byContradiction fun z=>h (by rw [decide_eq_false z];rfl)
   refine (hPv _ _ _).mpr ⟨_,_,ws,rfl,kL,sH,?_,?_,by omega,bw⟩
   ·rw [us];unfold stepT;rw [if_pos n0];exact ef
   ·rw [us];unfold stepT;rw [if_pos n0];exact ee
 intro σ Hx z
 obtain⟨r2,r3,ws,rfl,kL,sH,ef,ee,lw,bw⟩:=(hPv _ _ _).mp z
 k_units
 obtain⟨c1,c2⟩:=ts_ok ws fun w hw=>str_ok fun c hc=>by
  have h1:c∈allT f:=by rw [← show ws.flatten=allT f from ef];exact List.mem_flatten.mpr ⟨w,hw,hc⟩
  have h2:c∈shF f:=by unfold shF;rw [if_neg (fun z=>by rw [z] at h1;cases h1)];exact h1
  have:=sh_44 h2
  omega
 refine⟨by decide,fun B nB=>⟨_,.lst (SqL.of (same_upd nB _ _ _ kL)) (dv_ts ws),_,.lst (SqL.of upd_same) .nil,c1,rfl,c2,?_⟩⟩
 have q':=q _ (sH.trans (same_upd nB (.lst [])))
 have e3:ws.flatten=allT f:=ef
 unfold shF at q'
 refine ite2 (fun h=>?_) (fun h=>⟨_,SqL.of (same_upd nB _ _ _ kL),?_,?_⟩)
 ·rw [if_pos (by rw [← e3,(ts_nil ws).mp h];rfl)] at q'
  rw [l_0];exact q'
 ·have:=StrLaws.sumLen_le (B:=140) (ws.map TX.S) fun y hy=>by
   obtain⟨w,hw,rfl⟩:=List.mem_map.mp hy
   rw [TX.S_len];exact bw w hw
  have lw':ws.length<=3:=lw
  rw [List.length_map] at this ⊢
  rw [l_e,TX.S_len]
  have e:([]:List Nat).length=0:=rfl
  rw [e]
  omega
 ·rw [if_neg (fun z:allT f=[]=>h ((ts_nil ws).mpr (ee.mpr z)))] at q'
  rw [l_e,TX.join_S,jn_nil,e3]
  exact q'
theorem cl_tupV {K:W.Frag} {a:Addr} {xs zs:List V} {fv:List (Nat×Str)} {te:TE} {Q:VK} {σ:L2.St} {H1:Hp} {D:Addr} (nD:H1 D=none) (hA:SqT K H1 a xs) (hd:zs.length=xs.length) (hl:zs.length<=900)
  (hs:∀(i:Nat) (v z:V) (Hx:Hp) (R:VK),xs[i]?=some v->zs[i]?=some z->Same H1 Hx->(∀H',Same Hx H'->R z H')->te (bst fv σ (some v)) Hx R) (he:newL H1 Q zs):CLoop (Itt K a) fv te Q σ H1 D:=by
 refine⟨fun i m Hx=>m=xs.length - i∧i<=xs.length∧Hx D=some (.lst (zs.take i))∧Same H1 Hx,⟨_,rfl,Nat.zero_le _,upd_same,same_upd nD _⟩,?_⟩
 rintro i m Hx ⟨rfl,hi,k1,k3⟩
 have q:=Same.seqT k3 hA
 by_cases hlt:i < xs.length
 ·refine .inr ⟨⟨xs,xs[i],q,by simp [hlt]⟩,fun H'=>i+1<=xs.length∧H' D=some (.lst (zs.take (i+1)))∧Same H1 H',fun H' p=>⟨xs.length - (i+1),by omega,rfl,p⟩,fun v H' y=>?_⟩
  obtain⟨e,y⟩:=y
  subst e
  refine hs i v _ _ _ (y xs q) (List.getElem?_eq_getElem (show i < zs.length by omega)) k3 fun H2 s2=>?_
  refine⟨_,s2 _ _ k1,by rw [List.length_take];exact small1000 (by omega),by omega,?_,(k3.trans s2).more nD⟩
  rw [upd_same,← List.take_append_getElem (show i < zs.length by omega)]
 ·have e:i=xs.length:=by omega
  subst e
  rw [← hd,List.take_length] at k1
  exact .inl ⟨⟨xs,q,Nat.le_refl _⟩,he D Hx k3 nD k1⟩
def spLRT (K:W.Frag):Sp:=fun vs H Q _=>∃(p:Addr) (f:Int×Int),vs=[.ref p]∧SqT K H p [.int f.1,.int f.2]∧f.1.natAbs < 2 ^ 400∧f.2.natAbs < 2 ^ 400∧1<=f.2∧newH H Q (.str (TX.S (shR f)))
theorem ok__law_ratio_text {P:Program} {w:World} {K:W.Frag} {mg:Str->Option Value} {base:Heap} (T:Tx K mg):FnOk P w K mg base CX0 1 T.a__law_ratio_text T.fd__law_ratio_text ["_law_fraction"] (spLRT K):=by
 refine T.F__law_ratio_text.ok sc__law_ratio_text (fun vs H Q E h=>?_) (fun cdv A outer s H vs Q E hr h=>?_)
 ·obtain⟨p,f,rfl,_⟩:=h
  rfl
 obtain⟨p,f,rfl,hp,b1,b2,f1,q⟩:=h
 refine⟨_,((pss_one (ps_ret (pe_bm PySem.F.plainAttrs_str PySem.F.slot_str_join PySem.F.type_str_join mt_join pe_str (pa_cons (pe_slice sl_list (pe_lcomp rfl (blkok rfl sub_nil fv_nil) (pi_tup (pv 0)) (fun _ _ _ _=>(pe_callTy call_str_int rfl T.z_str bt_str (pa_cons (pv 0) pa_nil)))) po_none (po_some (pe_op op_add pe_int (pe_callTy call_int1 rfl T.z_int bt_int (pa_cons (pe_cmpR op_gt (pe_ix ix_tup (pv 0) pe_int (fun _ _=>rfl)) pe_int (nomark _)) pa_nil))))) pa_nil))))),?_⟩
 dsimp only [a_seq]
 k_typeOf
 refine⟨⟨_,hp⟩,fun D nD=>?_⟩
 have l1:=sh_len b1
 have l2:=sh_len b2
 refine cl_tupV (xs:=[V.int f.1,V.int f.2]) (zs:=[.str (TX.S (TX.shI f.1)),.str (TX.S (TX.shI f.2))]) nD hp rfl (by simp) (fun i v z Hx R hv hz sx hR=>?_) fun D' H2 s2 nD' eD'=>?_
 ·have go:∀n:Int,n.natAbs < 2 ^ 400->v=.int n->z=.str (TX.S (TX.shI n))->tCB (fun xs H Q=>∃i,xs=[V.int i]∧i.natAbs.log2 < 1920∧Q (V.str (Str.ofString (toString i))) H) (tCons (tVar 0) tNil) (bst [] (some (V.ref p) :: List.replicate (0+1 - (0+1)) none) (some v)) Hx R:=fun n bn ev ez=>by
   subst ev ez
   (iterate 3 (k_units;(try simp only [bst]));k_units)
   refine⟨log_of bn (by decide) (by decide),?_⟩
   rw [TX.toS]
   exact hR _ (Same.refl _)
  match i,hv,hz with
  | 0,hv,hz=>exact go f.1 b1 (Option.some.inj hv).symm (Option.some.inj hz).symm
  | 1,hv,hz=>exact go f.2 b2 (Option.some.inj hv).symm (Option.some.inj hz).symm
 refine⟨_,Same.seqT s2 hp,_,rfl,_,rfl,.inr ⟨D',rfl,_,SqL.of eD',fun B nB=>?_⟩⟩
 have q':=q _ (s2.trans (same_upd nB (.lst (cutV [.str (TX.S (TX.shI f.1)),.str (TX.S (TX.shI f.2))] none (some (1+if 1 < f.2 then 1 else 0))))))
 unfold shR at q'
 by_cases z:f.2=1
 ·rw [if_pos z] at q'
  rw [if_neg (by omega)] at q' ⊢
  have ec:cutV [.str (TX.S (TX.shI f.1)),.str (TX.S (TX.shI f.2))] none (some (1+0))=[V.str (TX.S (TX.shI f.1))]:=rfl
  rw [ec] at q' ⊢
  refine⟨[TX.S (TX.shI f.1)],SqL.of upd_same,?_,?_⟩
  ·simp [TX.S_len,l_sl];omega
  ·rw [l_sl,show [TX.S (TX.shI f.1)]=[TX.shI f.1].map TX.S from rfl,TX.join_S]
   exact q'
 ·rw [if_neg z] at q'
  rw [if_pos (by omega)] at q' ⊢
  have ec:cutV [.str (TX.S (TX.shI f.1)),.str (TX.S (TX.shI f.2))] none (some (1+1))=[V.str (TX.S (TX.shI f.1)),V.str (TX.S (TX.shI f.2))]:=rfl
  rw [ec] at q' ⊢
  refine⟨[TX.S (TX.shI f.1),TX.S (TX.shI f.2)],SqL.of upd_same,?_,?_⟩
  ·simp [TX.S_len,l_sl];omega
  ·rw [l_sl,show [TX.S (TX.shI f.1),TX.S (TX.shI f.2)]=[TX.shI f.1,TX.shI f.2].map TX.S from rfl,TX.join_S]
   simpa [TX.jn] using q'
def prF:Prt->Prop
 | .pow f=>1<=f.2
 | .gro f=>1<=f.2
 | _=>True
def spLPT (K:W.Frag):Sp:=fun vs H Q _=>∃(r:Addr) (p:Prt),vs=[.ref r]∧PtAt H r p∧PrB p∧prF p∧newH H Q (.str (TX.S (prT p)))
theorem w_pg:decide (Str.ofString "power" = Str.ofString "growth")=false:=by decide +kernel
theorem w_gg:decide (Str.ofString "growth" = Str.ofString "growth")=true:=by decide +kernel
theorem ok__law_part_text {P:Program} {w:World} {K:W.Frag} {mg:Str->Option Value} {base:Heap} (T:Tx K mg):FnOk P w K mg base CX0 3 T.a__law_part_text T.fd__law_part_text ["_law_part_here"] (spLPT K):=by
 refine T.F__law_part_text.ok sc__law_part_text (fun vs H Q E h=>?_) (fun cdv A outer s H vs Q E hr h=>?_)
 ·obtain⟨r,p,rfl,_⟩:=h
  rfl
 obtain⟨r,p,rfl,hp,bp,fp,q⟩:=h
 refine⟨_,((pss_cons (ps_if (pt_cmpR op_eq (pe_ix ix_tup (pv 0) pe_int (fun _ _=>rfl)) pe_str (nomark _)) (pss_one (ps_ret (pe_op op_catS (pe_op op_catS pe_str (pe_bm PySem.F.plainAttrs_str PySem.F.slot_str_join PySem.F.type_str_join mt_join pe_str (pa_cons (pe_lst (pa_cons (pe_call (FnOk.mono (ok__law_form_text T) (by decide)) hr rfl T.m__law_form_text T.F__law_form_text.kp T.b__law_form_text .nil pass0 (pa_cons (pe_ix ix_tup (pv 0) pe_int (fun _ _=>rfl)) pa_nil)) (pa_cons (pe_call (FnOk.mono (ok__law_form_text T) (by decide)) hr rfl T.m__law_form_text T.F__law_form_text.kp T.b__law_form_text .nil pass0 (pa_cons (pe_ix ix_tup (pv 0) pe_int (fun _ _=>rfl)) pa_nil)) pa_nil))) pa_nil))) pe_str))) pss_nil)
  (pss_cons (ps_if (pt_cmpR op_eq (pe_ix ix_tup (pv 0) pe_int (fun _ _=>rfl)) pe_str (nomark _)) (pss_one (ps_ret (pe_op op_catS (pe_op op_catS pe_str (pe_call (FnOk.mono (ok__law_form_text T) (by decide)) hr rfl T.m__law_form_text T.F__law_form_text.kp T.b__law_form_text .nil pass0 (pa_cons (pe_ix ix_tup (pv 0) pe_int (fun _ _=>rfl)) pa_nil))) pe_str))) pss_nil)
  (pss_one (ps_ret (pe_op op_catS (pe_op op_catS pe_str (pe_call (FnOk.mono (ok__law_ratio_text T) (by decide)) hr rfl T.m__law_ratio_text T.F__law_ratio_text.kp T.b__law_ratio_text .nil pass0 (pa_cons (pe_ix ix_tup (pv 0) pe_int (fun _ _=>rfl)) pa_nil))) (pe_ix ix_list (pe_lst (pa_cons pe_str (pa_cons pe_str pa_nil))) (pe_callTy call_int1 rfl T.z_int bt_int (pa_cons (pe_cmpR op_eq (pe_ix ix_tup (pv 0) pe_int (fun _ _=>rfl)) pe_str (nomark _)) pa_nil)) (fun _ _=>rfl)))))))),?_⟩
 match p with
 | .cho h l=>
  obtain⟨a,b,hr1,ha,hb⟩:=hp
  obtain⟨bh,bl⟩:=bp
  have l1:=shF_len bh
  have l2:=shF_len bl
  dsimp only [a_seq]
  k_typeOf
  refine⟨_,SqT.of hr1,_,rfl,?_⟩
  rw [a_eqS]
  refine⟨_,rfl,?_⟩
  rw [if_pos (by decide +kernel)]
  refine⟨_,SqT.of hr1,_,rfl,a,h,rfl,.inr (SqT.of ha),bh,fun H1 s1=>⟨_,SqT.of (s1 _ _ hr1),_,rfl,b,l,rfl,.inr (SqT.of (s1 _ _ hb)),bl,fun H2 s2=>⟨by decide,fun B nB=>⟨[TX.S (shF h),TX.S (shF l)],SqL.of upd_same,?_⟩⟩⟩⟩
  rw [show [TX.S (shF h),TX.S (shF l)]=[shF h,shF l].map TX.S from rfl,l_cs,TX.join_S,l_C,l_cl,TX.S_app,TX.S_app]
  have e:[67,40]++TX.jn [44,32] [shF h,shF l]++[41]=prT (.cho h l):=by rw [prT_c,List.append_assoc]
  have ll:(TX.jn [44,32] [shF h,shF l]).length<=5000:=by simp [TX.jn];omega
  rw [e]
  refine⟨?_,?_,?_,q _ ((s1.trans s2).trans (same_upd nB _))⟩
  ·simp [TX.S_len];omega
  ·rw [TX.S_len,TX.S_len];exact sl_of (by simp;omega)
  ·rw [TX.S_len,TX.S_len,List.length_append];exact sl_of (by simp;omega)
 | .wei f=>
  obtain⟨a,hr1,ha⟩:=hp
  have l1:=shF_len bp
  dsimp only [a_seq]
  k_typeOf
  refine⟨_,SqT.of hr1,_,rfl,?_⟩
  rw [a_eqS,w_wc]
  refine⟨_,rfl,?_⟩
  rw [if_neg (by decide)]
  dsimp only [a_seq]
  k_typeOf
  refine⟨_,SqT.of hr1,_,rfl,?_⟩
  rw [a_eqS,w_ww]
  refine⟨_,rfl,?_⟩
  rw [if_pos rfl]
  refine⟨_,SqT.of hr1,_,rfl,a,f,rfl,.inr (SqT.of ha),bp,fun H1 s1=>⟨_,rfl,?_,?_,?_⟩⟩
  ·rw [l_op,TX.S_len,TX.S_len];exact sl_of (by simp;omega)
  ·rw [l_op,l_cl,TX.S_app,TX.S_len,TX.S_len];exact sl_of (by simp;omega)
  ·rw [l_op,l_cl,TX.S_app,TX.S_app]
   have:=q _ s1
   simpa [prT] using this
 | .pow f=>
  obtain⟨a,hr1,ha⟩:=hp
  obtain⟨b1,b2⟩:=bp
  have l1:=shR_len b1 b2
  dsimp only [a_seq]
  k_typeOf
  refine⟨_,SqT.of hr1,_,rfl,?_⟩
  rw [a_eqS,w_pc]
  refine⟨_,rfl,?_⟩
  rw [if_neg (by decide)]
  dsimp only [a_seq]
  k_typeOf
  refine⟨_,SqT.of hr1,_,rfl,?_⟩
  rw [a_eqS,w_pw]
  refine⟨_,rfl,?_⟩
  rw [if_neg (by decide)]
  refine⟨_,SqT.of hr1,_,rfl,a,f,rfl,SqT.of ha,b1,b2,fp,fun H1 s1=>⟨_,rfl,?_,by decide,fun B nB=>⟨_,SqT.of (same_upd nB _ _ _ (s1 _ _ hr1)),_,rfl,?_⟩⟩⟩
  ·rw [l_sq,TX.S_len,TX.S_len];exact sl_of (by simp;omega)
  rw [a_eqS,w_pg]
  refine .inr ⟨_,rfl,_,SqL.of upd_same,_,rfl,_,rfl,?_⟩
  rw [l_sq,l_upk,TX.S_app,TX.S_app]
  refine⟨?_,?_⟩
  ·rw [TX.S_len,TX.S_len];exact sl_of (by simp;omega)
  ·have:=q _ (s1.trans (same_upd nB (.lst [V.str (Str.ofString "]^k"),V.str (Str.ofString "]^n")])))
   rw [l_upk] at this
   simpa [prT] using this
 | .gro f=>
  obtain⟨a,hr1,ha⟩:=hp
  obtain⟨b1,b2⟩:=bp
  have l1:=shR_len b1 b2
  dsimp only [a_seq]
  k_typeOf
  refine⟨_,SqT.of hr1,_,rfl,?_⟩
  rw [a_eqS,w_gc]
  refine⟨_,rfl,?_⟩
  rw [if_neg (by decide)]
  dsimp only [a_seq]
  k_typeOf
  refine⟨_,SqT.of hr1,_,rfl,?_⟩
  rw [a_eqS,w_gw]
  refine⟨_,rfl,?_⟩
  rw [if_neg (by decide)]
  refine⟨_,SqT.of hr1,_,rfl,a,f,rfl,SqT.of ha,b1,b2,fp,fun H1 s1=>⟨_,rfl,?_,by decide,fun B nB=>⟨_,SqT.of (same_upd nB _ _ _ (s1 _ _ hr1)),_,rfl,?_⟩⟩⟩
  ·rw [l_sq,TX.S_len,TX.S_len];exact sl_of (by simp;omega)
  rw [a_eqS,w_gg]
  refine .inr ⟨_,rfl,_,SqL.of upd_same,_,rfl,_,rfl,?_⟩
  rw [l_sq,l_upn,TX.S_app,TX.S_app]
  refine⟨?_,?_⟩
  ·rw [TX.S_len,TX.S_len];exact sl_of (by simp;omega)
  ·have:=q _ (s1.trans (same_upd nB (.lst [V.str (Str.ofString "]^k"),V.str (Str.ofString "]^n")])))
   rw [l_upn] at this
   simpa [prT] using this
theorem inV_w (w:List Nat) (x y:Str) (a b:List Nat) (hx:x=TX.S a) (hy:y=TX.S b):inV (V.str (TX.S w)) [.str x,.str y]=decide (w=a∨w=b):=by
 subst hx hy
 unfold inV
 rw [show ([V.str (TX.S a),V.str (TX.S b)].any fun y=>eqV y (V.str (TX.S w)))=(decide (TX.S a=TX.S w) || (decide (TX.S b=TX.S w) || false)) by
  simp only [List.any_cons,List.any_nil,eqV]
  rfl]
 simp only [TX.S_eq]
 rw [Bool.eq_iff_iff]
 simp only [Bool.or_false,Bool.or_eq_true,decide_eq_true_eq]
 exact⟨fun h=>h.imp Eq.symm Eq.symm,fun h=>h.imp Eq.symm Eq.symm⟩
theorem find_nk (c:Nat):Txt.find (TX.S [110,107]) (TX.S [c])=if c=110 then 0 else if c=107 then 1 else -1:=by
 have at0:∀k,StrLaws.At (TX.S [110,107]) (TX.S [c]) (TX.S [110,107]).length k↔(k=0∧c=110)∨(k=1∧c=107):=fun k=>by
  rw [TX.at_S]
  match k with
  | 0=>simp;exact eq_comm
  | 1=>simp;exact eq_comm
  | k+2=>simp
 unfold Txt.find
 rcases StrLaws.occ_head (TX.S [110,107]) (TX.S [c]) 1 (Nat.le_refl _) with ⟨h1,h2⟩ | ⟨i,r,h1,h2,h3⟩
 ·rw [h1]
  rw [if_neg (fun z=>h2 0 ((at0 0).mpr (.inl ⟨rfl,z⟩))),if_neg (fun z=>h2 1 ((at0 1).mpr (.inr ⟨rfl,z⟩)))]
 ·rw [h1]
  rcases (at0 i).mp h2 with ⟨rfl,rfl⟩ | ⟨rfl,rfl⟩ <;> rfl
def SzF (N:F3) (i:Nat):Prop:=N.1.natAbs<=i * 10 ^ 60∧N.2.1.natAbs<=i * 10 ^ 60∧N.2.2.natAbs<=i * 10 ^ 60
theorem sz_mono {N:F3} {i:Nat} (h:SzF N i):SzF N (i+1):=by
 have:=Nat.mul_le_mul_right (10 ^ 60) (Nat.le_succ i)
 exact⟨Nat.le_trans h.1 this,Nat.le_trans h.2.1 this,Nat.le_trans h.2.2 this⟩
theorem sz_one {a n:Int} {i:Nat} (h:a.natAbs<=i * 10 ^ 60) (b:NB n):(a+n).natAbs<=(i+1) * 10 ^ 60:=by
 rw [Nat.succ_mul]
 exact Nat.le_trans (Int.natAbs_add_le _ _) (Nat.add_le_add h (Nat.le_of_lt b))
theorem sz_add {N:F3} {i j:Nat} {n:Int} (h:SzF N i) (b:NB n):SzF (addF N j n) (i+1):=by
 have h':=sz_mono h
 unfold addF setF fat
 split
 ·exact⟨sz_one h.1 b,h'.2.1,h'.2.2⟩
 ·split
  ·exact⟨h'.1,sz_one h.2.1 b,h'.2.2⟩
  ·exact⟨h'.1,h'.2.1,sz_one h.2.2 b⟩
theorem sz_bd {N:F3} {i:Nat} (h:SzF N i) (hi:i<=3001):FBd N 400:=by
 have:i * 10 ^ 60 < 2 ^ 400:=Nat.lt_of_le_of_lt (Nat.mul_le_mul_right _ hi) (by decide +kernel)
 exact⟨Nat.lt_of_le_of_lt h.1 this,Nat.lt_of_le_of_lt h.2.1 this,Nat.lt_of_le_of_lt h.2.2 this⟩
theorem lx_3 (w:List Nat):lx w < 3:=by unfold lx;split;decide;split <;> decide
theorem ix_201 {q:List Nat} {c:Nat}:atI [V.int 2,V.int 0,V.int 1] (Txt.find (Str.ofString "nk") { cps:=#[c] }+1)=some (V.int (lx (q++[c]):Nat)):=by
 rw [show Str.ofString "nk" = TX.S [110,107] from rfl,show ({ cps:=#[c] }:Str)=TX.S [c] from rfl,find_nk]
 have e:(q++[c]).getLast?=some c:=by simp
 unfold lx
 rw [e]
 by_cases h:c=110
 ·rw [if_pos h,if_pos (by rw [h])];rfl
 ·rw [if_neg h,if_neg (fun z=>h (Option.some.inj z))]
  by_cases h2:c=107
  ·rw [if_pos h2,if_pos (by rw [h2])];rfl
  ·rw [if_neg h2,if_neg (fun z=>h2 (Option.some.inj z))];rfl
theorem ix_fat {N:F3} {j:Nat} (hj:j < 3):atI [V.int N.1,V.int N.2.1,V.int N.2.2] (j:Int)=some (V.int (fat N j)):=by
 match j,hj with
 | 0,_=>rfl
 | 1,_=>rfl
 | 2,_=>rfl
theorem sgn_in (c:Nat):(Builtin.Str.occurrences (Str.ofString "+-") { cps:=#[c] } 0 (Str.ofString "+-").length 1).isEmpty=false↔(c=43∨c=45):=by
 have h:=StrLaws.found_one (Str.ofString "+-") c
 rw [l_pm,TX.S_list] at h
 rw [l_pm]
 generalize Builtin.Str.occurrences (TX.S [43,45]) { cps:=#[c] } 0 (TX.S [43,45]).length 1=o at h ⊢
 cases o with
 | nil=>
  simp only [List.isEmpty_nil,Bool.not_true] at h
  have:=of_decide_eq_false h.symm
  simp at this ⊢
  omega
 | cons a r=>
  simp only [List.isEmpty_cons,Bool.not_false] at h
  have:=of_decide_eq_true h.symm
  simp at this ⊢
  omega
theorem sl_bdy {w r:List Nat} {c:Nat} (e:w=c :: r):Txt.slice (TX.S w) (some (if ({ cps:=#[c] }:Str)=TX.S [43] then 1 else 0)) (some (((TX.S w).length:Int) - (if ((lx w:Nat):Int) < 2 then 1 else 0)))=TX.S (bdy w):=by
 have e1:(if ({ cps:=#[c] }:Str)=TX.S [43] then (1:Int) else 0)=((sg1 w:Nat):Int):=by
  unfold sg1
  have hh:w.head?=some 43↔c=43:=by rw [e];exact⟨fun z=>Option.some.inj z,fun z=>by rw [z];rfl⟩
  have hs:({ cps:=#[c] }:Str)=TX.S [43]↔c=43:=⟨fun z=>List.singleton_inj.mp (TX.S_inj (show TX.S [c]=TX.S [43] from z)),fun z=>by rw [z];rfl⟩
  by_cases h:c=43
  ·rw [if_pos (hs.mpr h),if_pos (hh.mpr h)];rfl
  ·rw [if_neg (fun z=>h (hs.mp z)),if_neg (fun z=>h (hh.mp z))];rfl
 have e2:(((TX.S w).length:Int) - (if ((lx w:Nat):Int) < 2 then (1:Int) else 0))=((w.length - lt1 w:Nat):Int):=by
  rw [TX.S_len]
  have:1<=w.length:=by rw [e];simp
  unfold lt1
  by_cases h:lx w < 2
  ·rw [if_pos (by omega),if_pos h];omega
  ·rw [if_neg (by omega),if_neg h];omega
 rw [e1,e2,sl_btw]
 rfl
theorem bd1_len (w:List Nat):(bd1 w).length<=w.length+1:=by
 have:(bdy w).length<=w.length:=by unfold bdy;rw [List.length_take,List.length_drop];omega
 unfold bd1;split
 ·simp;omega
 ·omega
theorem l_1:Str.ofString "1" = TX.S [49]:=rfl
theorem ok__law_form_of {P:Program} {w:World} {K:W.Frag} {mg:Str->Option Value} {base:Heap} (T:Tx K mg):FnOk P w K mg base CX0 3 T.a__law_form_of T.fd__law_form_of ["_law_line"] spRdF:=by
 refine T.F__law_form_of.ok sc__law_form_of (fun vs H Q E h=>?_) (fun cdv A outer s H vs Q E hr h=>?_)
 ·obtain⟨t,rfl,_⟩:=h
  rfl
 obtain⟨t,rfl,ll,qy,qn⟩:=h
 refine⟨_,((pss_cons (ps_set (i:=1) sc__law_form_of.nd rfl (Or.inl rfl) (pe_lst (pa_cons pe_int (pa_cons pe_int (pa_cons pe_int pa_nil)))))
  (pss_cons (ps_set (i:=2) sc__law_form_of.nd rfl (Or.inl rfl) pe_str)
  (pss_cons (ps_for PassesOwn.never rfl (pi_str (pe_op op_catS (pv 0) pe_str)) (pg_name (i:=3) sc__law_form_of.nd rfl (Or.inl rfl)) (pss_mid (ps_if (PW.pt (pw_and (pt_cmpR op_inT (pv 3) pe_str (by with_unfolding_all rfl)) (pw_and1 (pt_cmpR op_notIn_seq (pv 2) (pe_lst (pa_cons pe_str (pa_cons pe_str pa_nil))) (by with_unfolding_all rfl))))) (pss_cons (ps_set (i:=4) sc__law_form_of.nd rfl (Or.inl rfl) (pe_ix ix_list (pe_lst (pa_cons pe_int (pa_cons pe_int (pa_cons pe_int pa_nil)))) (pe_op op_add (pe_bm PySem.F.plainAttrs_str PySem.F.slot_str_find PySem.F.type_str_find mt_find pe_str (pa_cons (pe_ix ix_str (pv 2) (pe_un un_neg pe_int) (fun _ _=>rfl)) pa_nil)) pe_int) (fun _ _=>rfl)))
  (pss_cons (ps_set (i:=5) sc__law_form_of.nd rfl (Or.inl rfl) (pe_slice sl_str (pv 2) (po_some (pe_callTy call_int1 rfl T.z_int bt_int (pa_cons (pe_cmpR op_eq (pe_ix ix_str (pv 2) pe_int (fun _ _=>rfl)) pe_str (nomark _)) pa_nil))) (po_some (pe_op op_sub (pe_callB call_len_str rfl T.z_len bt_len (pa_cons (pv 2) pa_nil)) (pe_callTy call_int1 rfl T.z_int bt_int (pa_cons (pe_cmpR op_lt (pv 4) pe_int (nomark _)) pa_nil))))))
  (pss_mid (ps_if (PW.pt (pw_and (pt_cmpR op_lt (pv 4) pe_int (nomark _)) (pw_and1 (pt_cmpR op_in_seq (pv 5) (pe_lst (pa_cons pe_str (pa_cons pe_str pa_nil))) (by with_unfolding_all rfl))))) (pss_one (ps_set (i:=5) sc__law_form_of.nd rfl (Or.inl rfl) (pe_op op_catS (pv 5) pe_str))) pss_nil)
  (pss_cons (ps_set (i:=6) sc__law_form_of.nd rfl (Or.inl rfl) (pe_call (FnOk.mono (ok__law_whole_of T) (by decide)) hr rfl T.m__law_whole_of T.F__law_whole_of.kp T.b__law_whole_of .nil pass0 (pa_cons (pv 5) pa_nil)))
  (pss_cons (ps_if (pt_cmpR op_isN (pv 6) pe_non (nomark _)) (pss_one (ps_ret pe_non)) pss_nil)
  (pss_cons (ps_asg (pe_op op_add (pe_ix ix_list (pv 1) (pv 4) (fun _ _=>rfl)) (pv 6)) (pg_sub (pv 1) (pv 4) set_list))
  (pss_one (ps_set (i:=2) sc__law_form_of.nd rfl (Or.inl rfl) pe_str)))))))) pss_nil)
  (pss_one (ps_set (i:=2) sc__law_form_of.nd rfl (Or.inl rfl) (pe_op op_catS (pv 2) (pv 3))))))
  (pss_cons (ps_if (PW.pt (pw_or (pt_cmpR op_ne (pv 2) pe_str (nomark _)) (pw_or1 (pt_cmpR op_ne (pe_call (FnOk.mono (ok__law_form_text T) (by decide)) hr rfl T.m__law_form_text T.F__law_form_text.kp T.b__law_form_text .nil pass0 (pa_cons (pv 1) pa_nil)) (pv 0) (nomark _))))) (pss_one (ps_ret pe_non)) pss_nil)
  (pss_one (ps_ret (pe_callTy call_tuple_of rfl T.z_tuple bt_tuple (pa_cons (pv 1) pa_nil))))))))),?_⟩
 dsimp only [a_seq]
 k_typeOf
 refine⟨by decide,fun p np=>?_⟩
 dsimp only [a_seq]
 k_typeOf
 dsimp only [a_seq]
 k_typeOf
 obtain⟨z,hz⟩:∃z,z=t++[43]:=⟨_,rfl⟩
 have lz:z.length<=3001:=by rw [hz];simp;omega
 rw [l_pl,TX.S_app,← hz]
 have no:∀i,Stps Z0 (z.take i) none->∀H',Same H H'->Q .non H':=fun i h H' s'=>qn (fun f bf e=>by
  have h1:=stps_none (m:=z.drop i) h
  rw [List.take_append_drop,hz,e] at h1
  exact nomatch stps_one ((walk_form f).1 bf) h1) _ s'
 obtain⟨Pv,hPv⟩:∃Pv:Nat->L2.St->Hp->Prop,∀i σ Hx,Pv i σ Hx↔∃N w r3 r4 r5 r6,σ=[some (.str (TX.S t)),some (.ref p),some (.str (TX.S w)),r3,r4,r5,r6]∧Hx p=some (.lst [.int N.1,.int N.2.1,.int N.2.2])∧Same H Hx∧Stps Z0 (z.take i) (some (N,w))∧SzF N i∧w.length<=i:=⟨_,fun _ _ _=>Iff.rfl⟩
 refine⟨by rw [TX.S_len,TX.S_len];exact sl_of (by simp;omega),lp_str Pv ((hPv _ _ _).mpr ⟨(0,0,0),[],_,_,_,_,rfl,upd_same,same_upd np _,.nil _,⟨Nat.zero_le _,Nat.zero_le _,Nat.zero_le _⟩,Nat.le_refl _⟩) ?_ ?_⟩
 ·intro i c σ Hx hc hp
  obtain⟨N,w,r3,r4,r5,r6,rfl,kp,sH,st,sz,lw⟩:=(hPv _ _ _).mp hp
  clear hp
  rw [TX.S_list] at hc
  obtain⟨hi,ec⟩:=List.getElem?_eq_some_iff.mp hc
  have tk:z.take (i+1)=z.take i++[c]:=by rw [← List.take_append_getElem hi,ec]
  have lw':w.length<=3001:=by omega
  have lS:(TX.S w).length<=sizeLine:=by rw [TX.S_len];exact sl_of (by omega)
  dsimp only [a_seq]
  k_typeOf
  obtain⟨M,hM⟩:∃M:L2.St->Hp->Prop,∀σ Hy,M σ Hy↔∃N' w' r4 r5 r6,σ=[some (.str (TX.S t)),some (.ref p),some (.str (TX.S w')),some (.str (TX.S [c])),r4,r5,r6]∧Hy p=some (.lst [.int N'.1,.int N'.2.1,.int N'.2.2])∧Same H Hy∧Stp (some (N,w)) c (some (N',w'++[c]))∧SzF N' (i+1)∧w'.length<=i:=⟨_,fun _ _=>Iff.rfl⟩
  refine mid_of M ?_ ?_
  ·skip
   dsimp only [a_seq]
   k_typeOf
   simp only [sgn_in]
   have keep:∀Hy,Same Hx Hy->¬((c=43∨c=45)∧w≠[]∧w≠[43])->M [some (V.str (TX.S t)),some (V.ref p),some (V.str (TX.S w)),some (V.str { cps:=#[c] }),r4,r5,r6] Hy:=fun Hy sy h=>(hM _ _).mpr ⟨N,w,_,_,_,rfl,sy _ _ kp,sH.trans sy,.put h,sz_mono sz,lw⟩
   refine ite2 (fun hs=>⟨by decide,fun B nB=>⟨_,.inl (SqL.of upd_same),rfl,rfl,?_⟩⟩) (fun hs=>keep _ (Same.refl _) fun y=>hs y.1)
   have sB:=same_upd nB (.lst [V.str (Str.ofString ""),V.str (TX.S [43])])
   rw [inV_w w _ _ [] [43] l_e rfl]
   refine ite2 (fun hw=>?_) (fun hw=>keep _ sB fun y=>hw (decide_eq_false (not_or.mpr y.2)))
   have hw':=not_or.mp (of_decide_eq_false hw)
   generalize L2.upd Hx B (.lst [V.str (Str.ofString ""),V.str (TX.S [43])])=Hy at sB
   have kp1:=sB _ _ kp
   have sH1:=sH.trans sB
   clear keep nB sB kp sH hw
   obtain⟨q,d,ew⟩:∃q d,w=q++[d]:=⟨_,_,(List.dropLast_concat_getLast hw'.1).symm⟩
   have hat:atI (TX.S w).cps.toList (-1)=some d:=by rw [TX.S_list,ew];exact at_lastN _ _
   have h201:atI [V.int 2,V.int 0,V.int 1] (Txt.find (Str.ofString "nk") { cps:=#[d] }+1)=some (V.int (lx w:Nat)):=by rw [ew];exact ix_201
   clear ew
   obtain⟨c0,w0,ew⟩:∃c0 w0,w=c0 :: w0:=List.exists_cons_of_ne_nil hw'.1
   have hat0:atI (TX.S w).cps.toList 0=some c0:=by rw [TX.S_list,ew];exact atI_nat (j:=0) rfl
   have hsl:=sl_bdy ew
   have lS':(TX.S w).length<=100000:=by rw [TX.S_len];omega
   dsimp only [a_seq]
   k_typeOf
   refine⟨by decide,fun B nB=>⟨lS,d,hat,_,SqL.of upd_same,_,h201,?_⟩⟩
   have sB:=same_upd nB (.lst [V.int 2,V.int 0,V.int 1])
   generalize L2.upd Hy B (.lst [V.int 2,V.int 0,V.int 1])=Hz at sB
   have kp2:=sB _ _ kp1
   have sH2:=sH1.trans sB
   clear nB sB kp1 sH1
   dsimp only [a_seq]
   k_typeOf
   refine⟨lS,c0,hat0,.inr ⟨lS,.inr ⟨lS',?_⟩⟩⟩
   rw [hsl]
   have lb:=bd1_len w
   obtain⟨M1,hM1⟩:∃M1:L2.St->Hp->Prop,∀σ Hy,M1 σ Hy↔σ=[some (.str (TX.S t)),some (.ref p),some (.str (TX.S w)),some (.str (TX.S [c])),some (.int (lx w:Nat)),some (.str (TX.S (bd1 w))),r6]∧Hy p=some (.lst [.int N.1,.int N.2.1,.int N.2.2])∧Same H Hy:=⟨_,fun _ _=>Iff.rfl⟩
   refine mid_of M1 ?_ ?_
   ·k_units
    refine ite2 (fun h2=>⟨by decide,fun B nB=>⟨_,.inl (SqL.of upd_same),rfl,rfl,?_⟩⟩) (fun h2=>(hM1 _ _).mpr ⟨?_,kp2,sH2⟩)
    ·have sB:=same_upd nB (.lst [V.str (Str.ofString ""),V.str (Str.ofString "-")])
     rw [inV_w (bdy w) _ _ [] [45] l_e l_mi]
     have lb2:(bdy w).length<=w.length:=by unfold bdy;rw [List.length_take,List.length_drop];omega
     refine ite2 (fun h3=>⟨?_,(hM1 _ _).mpr ⟨?_,sB _ _ kp2,sH2.trans sB⟩⟩) (fun h3=>(hM1 _ _).mpr ⟨?_,sB _ _ kp2,sH2.trans sB⟩)
     ·rw [l_1,TX.S_len,TX.S_len];exact sl_of (by simp;omega)
     ·rw [l_1,TX.S_app];unfold bd1;rw [if_pos ⟨by omega,of_decide_eq_true h3⟩];rfl
     ·unfold bd1;rw [if_neg (fun y=>h3 (decide_eq_true y.2))];rfl
    ·unfold bd1;rw [if_neg (fun y=>h2 (by have:=y.1;omega))];rfl
   intro σ Hy1 hm1
   obtain⟨rfl,kp3,sH3⟩:=(hM1 _ _).mp hm1
   clear hm1 hM1 M1 kp2 sH2 hsl
   dsimp only [a_seq]
   k_typeOf
   refine⟨bd1 w,rfl,by omega,rdw_of fun v H1 s1 hv=>?_⟩
   have kp4:=s1 _ _ kp3
   have sH4:=sH3.trans s1
   dsimp only [a_seq]
   k_typeOf
   rcases hv with ⟨rfl,hn⟩ | ⟨n,rfl,en,bn⟩
   ·rw [if_pos (by simp)]
    refine no (i+1) ?_ _ sH4
    rw [tk]
    exact .snoc st (.bad hs hw'.1 hw'.2 fun m hm=>hn m hm.1 hm.2)
   ·rw [if_neg (by simp)]
    dsimp only [a_seq]
    k_typeOf
    refine⟨_,SqL.of kp4,_,ix_fat (lx_3 w),_,rfl,_,kp4,lx w,ix3 (lx_3 w),(hM _ _).mpr ⟨addF N (lx w) n,[],_,_,_,rfl,?_,sH4.more np,.cut hs hw'.1 hw'.2 ⟨en,bn⟩,sz_add sz bn,Nat.zero_le _⟩⟩
    rw [upd_same,setF_l (lx_3 w)]
    rfl
  intro σ Hy hm
  obtain⟨N',w',r4',r5',r6',rfl,kp',sH',st',sz',lw2⟩:=(hM _ _).mp hm
  clear hm hM M
  k_units
  rw [TX.S_app,TX.S_len,TX.S_len]
  refine⟨sl_of (by simp;omega),(hPv _ _ _).mpr ⟨N',w'++[c],_,_,_,_,rfl,kp',sH',by rw [tk];exact .snoc st st',sz',by simp;omega⟩⟩
 intro σ Hx hp
 obtain⟨N,w,r3,r4,r5,r6,rfl,kp,sH,st,sz,lw⟩:=(hPv _ _ _).mp hp
 clear hp hPv Pv
 rw [show (TX.S z).cps.size=z.length by simp [TX.S],List.take_length] at st
 have sf:=sz_bd sz (by simp [TX.S];omega)
 have bad:¬(w=[43]∧t=shF N)->∀H',Same H H'->Q .non H':=fun nb H' s'=>qn (fun f bf e=>nb ?_) _ s'
 ·skip
  dsimp only [a_seq]
  k_typeOf
  simp only [TX.S_eq]
  refine ite2 (fun h=>bad (fun y=>h y.1) _ sH) (fun h=>?_)
  have hw:w=[43]:=Classical.not_not.mp h
  refine⟨p,N,rfl,.inl (SqL.of kp),sf,fun H1 s1=>?_⟩
  dsimp only
  rw [a_neS]
  refine⟨_,rfl,?_⟩
  simp only [TX.S_eq]
  refine ite2 (fun h2=>bad (fun y=>?_) _ (sH.trans s1)) (fun h2=>⟨_,.inl ⟨SqL.of (s1 _ _ kp),fun l nl=>?_⟩⟩)
  ·rw [y.2] at h2;simp at h2
  ·have et:shF N=t:=by simpa using h2
   have nN:NF N:=Classical.byContradiction fun y=>by
    have h3:=(walk_form N).2 y
    rw [et,← hz] at h3
    exact nomatch stps_one st h3
   exact qy N nN et.symm l _ ((sH.trans s1).trans (same_upd nl _)) upd_same
 ·have h3:=(walk_form f).1 bf
  rw [← e,← hz] at h3
  have h4:=Option.some.inj (stps_one st h3)
  exact⟨congrArg Prod.snd h4,by rw [e,show N=f from congrArg Prod.fst h4]⟩
theorem two_of {α:Type} {l:List α} (h:l.length=2):∃a b,l=[a,b]:=by
 match l,h with
 | [a,b],_=>exact⟨a,b,rfl⟩
theorem nb1:NB 1:=by unfold NB;decide +kernel
theorem si3:¬(HT.sIx 3 0 none=0∧HT.sIx 3 3 (some 2)=3):=by decide
theorem spl_shR (f:Int×Int):spl 47 (shR f)=if f.2=1 then [TX.shI f.1] else [TX.shI f.1,TX.shI f.2]:=by
 unfold shR
 split
 ·exact spl_no (nf47 _)
 ·rw [spl_app,spl_no (nf47 _),spl_no (nf47 _)];rfl
theorem ok__law_ratio_of {P:Program} {w:World} {K:W.Frag} {mg:Str->Option Value} {base:Heap} (T:Tx K mg):FnOk P w K mg base CX0 3 T.a__law_ratio_of T.fd__law_ratio_of ["_law_line"] spRdR:=by
 refine T.F__law_ratio_of.ok sc__law_ratio_of (fun vs H Q E h=>?_) (fun cdv A outer s H vs Q E hr h=>?_)
 ·obtain⟨t,rfl,_⟩:=h
  rfl
 obtain⟨t,rfl,ll,qy,qn⟩:=h
 refine⟨_,((pss_cons (ps_setC (i:=1) rfl (blkok rfl sub_nil fv_nil) (pi_list (pe_bm PySem.F.plainAttrs_str PySem.F.slot_str_split PySem.F.type_str_split mt_split (pv 0) (pa_cons pe_str pa_nil))) (fun _ _ _ _=>(pe_call (FnOk.mono (ok__law_whole_of T) (by decide)) hr rfl T.m__law_whole_of T.F__law_whole_of.kp T.b__law_whole_of .nil pass0 (pa_cons (pv 0) pa_nil))) sc__law_ratio_of.nd rfl rfl)
  (pss_cons (ps_if (PW.pt (pw_or (pt_cmpR op_gt (pe_callB call_len_seq rfl T.z_len bt_len (pa_cons (pv 1) pa_nil)) pe_int (nomark _)) (pw_or (pt_cmpR op_isN (pe_ix ix_list (pv 1) pe_int (fun _ _=>rfl)) pe_non (nomark _)) (pw_or1 (pt_cmpR op_isN (pe_ix ix_list (pv 1) (pe_un un_neg pe_int) (fun _ _=>rfl)) pe_non (nomark _)))))) (pss_one (ps_ret pe_non)) pss_nil)
  (pss_cons (ps_if (pt_cmpR op_eq (pe_callB call_len_seq rfl T.z_len bt_len (pa_cons (pv 1) pa_nil)) pe_int (nomark _)) (pss_one (ps_ret (pe_tup (pa_cons (pe_ix ix_list (pv 1) pe_int (fun _ _=>rfl)) (pa_cons pe_int pa_nil))))) pss_nil)
  (pss_cons (ps_if (PW.pt (pw_or (pt_cmpR op_lt (pe_ix ix_list (pv 1) pe_int (fun _ _=>rfl)) pe_int (nomark _)) (pw_or1 (pt_cmpR op_ne (pe_call (FnOk.mono (ok__law_divisor T) (by decide)) hr rfl T.m__law_divisor T.F__law_divisor.kp T.b__law_divisor .nil pass0 (pa_cons (pe_ix ix_list (pv 1) pe_int (fun _ _=>rfl)) (pa_cons (pe_ix ix_list (pv 1) pe_int (fun _ _=>rfl)) pa_nil))) pe_int (nomark _))))) (pss_one (ps_ret pe_non)) pss_nil)
  (pss_one (ps_ret (pe_tup (pa_cons (pe_ix ix_list (pv 1) pe_int (fun _ _=>rfl)) (pa_cons (pe_ix ix_list (pv 1) pe_int (fun _ _=>rfl)) pa_nil)))))))))),?_⟩
 dsimp only [a_seq]
 k_typeOf
 obtain⟨ps,hps⟩:∃ps,ps=spl 47 t:=⟨_,rfl⟩
 obtain⟨l1,l2⟩:=spl_len 47 t
 rw [← hps] at l1 l2
 rw [l_sl,split_S (by decide),← hps]
 refine⟨by decide,by rw [TX.S_len];omega,by rw [List.length_map];omega,fun A0 nA=>⟨A0,rfl,⟨_,SqL.of upd_same⟩,fun D nD=>?_⟩⟩
 have s0:=same_upd nA (.lst ((ps.map TX.S).map V.str))
 refine cl_rel (fun i z _=>∃pc,ps[i]?=some pc∧rdv pc z) (xs:=(ps.map TX.S).map V.str) nD (SqL.of upd_same) (by rw [List.length_map,List.length_map];omega) (fun i z _ _ _ h=>h) ?_ ?_
 ·intro i v Hx R hv sx hR
  rw [List.getElem?_map,List.getElem?_map] at hv
  obtain⟨y,hy,rfl⟩:=Option.map_eq_some_iff.mp hv
  obtain⟨pc,hpc,rfl⟩:=Option.map_eq_some_iff.mp hy
  have lp:=l2 pc (List.mem_of_getElem? hpc)
  (iterate 3 (k_units;(try simp only [bst]));k_units)
  exact⟨pc,rfl,by omega,rdw_of fun v H' s' hv=>hR v H' s' ⟨pc,hpc,hv⟩⟩
 intro zs lz D' H' rl s' nD' kD'
 rw [List.length_map,List.length_map] at lz
 have sH:Same H H':=s0.trans s'
 have due:∀f:Int×Int,t=shR f->ps=if f.2=1 then [TX.shI f.1] else [TX.shI f.1,TX.shI f.2]:=fun f e=>by rw [hps,e,spl_shR]
 have et:TX.jn [47] ps=t:=by rw [hps];exact (spl_jn 47 t).1
 have pn:ps≠[]:=by rw [hps];exact spl_ne 47 t
 have lp:1<=ps.length:=List.length_pos_iff.mpr pn
 have bad:(∀f:Int×Int,Frc f->NB f.1->NB f.2->t=shR f->False)->Q .non H':=fun h=>qn (fun f a b c e=>h f a b c e) _ sH
 clear hps l1 l2 nD nA s0 s' qn
 dsimp only [a_seq]
 k_typeOf
 refine⟨_,.inl (SqL.of kD'),ite2 (fun h=>bad fun f _ _ _ e=>?_) (fun h=>?_)⟩
 ·have:=due f e
  split at this <;> (rw [this] at lz;simp at lz;omega)
 rcases (show ps.length=1∨ps.length=2 by omega) with l1 | l2
 ·obtain⟨a,rfl⟩:=List.length_eq_one_iff.mp l1
  obtain⟨z0,rfl⟩:=List.length_eq_one_iff.mp (lz.trans l1)
  obtain⟨a',e',hv⟩:=rl 0 z0 rfl
  cases Option.some.inj e'
  have no:∀f:Int×Int,t=shR f->f.2=1∧a=TX.shI f.1:=fun f e=>by
   have:=due f e
   split at this
   ·rename_i z
    exact⟨z,List.singleton_inj.mp this⟩
   ·cases this
  refine⟨_,SqL.of kD',z0,rfl,?_⟩
  rcases hv with ⟨rfl,hn⟩ | ⟨n,rfl,en,bn⟩
  ·rw [if_pos rfl]
   exact bad fun f _ b _ e=>hn _ (no f e).2 b
  rw [if_neg (fun z=>nomatch z)]
  refine⟨_,SqL.of kD',_,rfl,?_⟩
  rw [if_neg (fun z=>nomatch z)]
  dsimp only [a_seq]
  k_typeOf
  refine⟨_,.inl (SqL.of kD'),?_⟩
  rw [if_pos (show (([V.int n].length:Nat):Int)=1 from rfl)]
  refine⟨_,SqL.of kD',_,rfl,by decide,fun l nl=>qy (n,1) ⟨Int.le_refl 1,Nat.gcd_one_right _⟩ bn nb1 ?_ l _ (sH.trans (same_upd nl _)) upd_same⟩
  have e1:t=a:=et.symm
  rw [e1,en];rfl
 ·obtain⟨a,b,rfl⟩:=two_of l2
  obtain⟨z0,z1,rfl⟩:=two_of (lz.trans l2)
  obtain⟨a',e',hv⟩:=rl 0 z0 rfl
  cases Option.some.inj e'
  obtain⟨b',e',hw⟩:=rl 1 z1 rfl
  cases Option.some.inj e'
  have no:∀f:Int×Int,t=shR f->f.2≠1∧a=TX.shI f.1∧b=TX.shI f.2:=fun f e=>by
   have:=due f e
   split at this
   ·cases this
   ·rename_i z
    exact⟨z,(List.cons.inj this).1,List.singleton_inj.mp (List.cons.inj this).2⟩
  refine⟨_,SqL.of kD',z0,rfl,?_⟩
  rcases hv with ⟨rfl,hn⟩ | ⟨n,rfl,en,bn⟩
  ·rw [if_pos rfl]
   exact bad fun f _ b _ e=>hn _ (no f e).2.1 b
  rw [if_neg (fun z=>nomatch z)]
  refine⟨_,SqL.of kD',z1,rfl,?_⟩
  rcases hw with ⟨rfl,hm⟩ | ⟨m,rfl,em,bm⟩
  ·rw [if_pos rfl]
   exact bad fun f _ _ b e=>hm _ (no f e).2.2 b
  rw [if_neg (fun z=>nomatch z)]
  have nm:∀f:Int×Int,t=shR f->f.2≠1∧n=f.1∧m=f.2:=fun f e=>by
   obtain⟨h1,h2,h3⟩:=no f e
   exact⟨h1,sh_inj bn (en.symm.trans h2),sh_inj bm (em.symm.trans h3)⟩
  dsimp only [a_seq]
  k_typeOf
  refine⟨_,.inl (SqL.of kD'),?_⟩
  rw [if_neg (by simp)]
  dsimp only [a_seq]
  k_typeOf
  refine⟨_,SqL.of kD',_,rfl,_,rfl,ite2 (fun h=>bad fun f hf _ _ e=>?_) (fun h=>⟨_,SqL.of kD',_,rfl,_,SqL.of kD',_,rfl,n,m,rfl,?_⟩)⟩
  ·obtain⟨h1,_,h3⟩:=nm f e
   have:=hf.1
   omega
  dsimp only
  rw [a_neI]
  refine⟨_,rfl,ite2 (fun hg=>bad fun f hf _ _ e=>?_) (fun hg=>⟨_,SqL.of kD',_,rfl,_,SqL.of kD',_,rfl,by decide,fun l nl=>qy (n,m) ⟨by show 1<=m;omega,?_⟩ bn bm ?_ l _ (sH.trans (same_upd nl _)) upd_same⟩)⟩
  ·obtain⟨_,h2,h3⟩:=nm f e
   rw [h2,h3,show Nat.gcd f.1.natAbs f.2.natAbs=1 from hf.2] at hg
   simp at hg
  ·show Nat.gcd n.natAbs m.natAbs=1
   have:=of_decide_eq_true (by simpa using hg)
   omega
  ·have e1:t=a++47 :: b:=by rw [← et];simp [TX.jn]
   have m1:m≠1:=by omega
   rw [e1,en,em];unfold shR;rw [if_neg m1]
def spLCh (K:W.Frag):Sp:=fun vs H Q _=>∃(p q:Addr) (h l:F3),vs=[.ref p,.ref q]∧SqT K H p [.int h.1,.int h.2.1,.int h.2.2]∧SqT K H q [.int l.1,.int l.2.1,.int l.2.2]∧∀(b:Bool) (H':Hp),(b=true↔ChoOk h l)->Same H H'->Q (.bl b) H'
theorem ok__law_is_choose {P:Program} {w:World} {K:W.Frag} {mg:Str->Option Value} {base:Heap} (T:Tx K mg):FnOk P w K mg base CX0 1 T.a__law_is_choose T.fd__law_is_choose ["_law_high","_law_low"] (spLCh K):=by
 refine T.F__law_is_choose.ok sc__law_is_choose (fun vs H Q E h=>?_) (fun cdv A outer s H vs Q E hr h=>?_)
 ·obtain⟨p,q,h,l,rfl,_⟩:=h
  rfl
 obtain⟨p,q,h,l,rfl,hp,hq,k⟩:=h
 refine⟨_,((pss_cons (ps_if (PW.pt (pw_or (pt_cmpR op_lt (pe_callB (call_minT rfl) rfl T.z_min bt_min (pa_cons (pv 0) pa_nil)) pe_int (nomark _)) (pw_or (pt_cmpR op_gt (pe_callB (call_maxT rfl) rfl T.z_max bt_max (pa_cons (pe_slice sl_tup (pv 0) po_none (po_some pe_int)) pa_nil)) pe_int (nomark _)) (pw_or (pt_cmpR op_gt (pe_ix ix_tup (pv 0) pe_int (fun _ _=>rfl)) pe_int (nomark _)) (pw_or (pt_cmpR op_lt (pe_callB (call_minT rfl) rfl T.z_min bt_min (pa_cons (pe_slice sl_tup (pv 1) po_none (po_some pe_int)) pa_nil)) (pe_un un_neg pe_int) (nomark _)) (pw_or1 (pt_cmpR op_gt (pe_callB (call_maxT rfl) rfl T.z_max bt_max (pa_cons (pe_slice sl_tup (pv 1) po_none (po_some pe_int)) pa_nil)) pe_int (nomark _)))))))) (pss_one (ps_ret pe_bl)) pss_nil)
  (pss_cons (ps_if (PW.pt (pw_or (pt_cmpR op_gt (pe_callB call_abs rfl T.z_abs bt_abs (pa_cons (pe_ix ix_tup (pv 1) pe_int (fun _ _=>rfl)) pa_nil)) pe_int (nomark _)) (pw_or1 (PW.pt (pw_and (pt_cmpR op_eq (pe_ix ix_tup (pv 1) pe_int (fun _ _=>rfl)) pe_int (nomark _)) (pw_and1 (pt_cmpR op_lt (pe_ix ix_tup (pv 1) pe_int (fun _ _=>rfl)) pe_int (nomark _)))))))) (pss_one (ps_ret pe_bl)) pss_nil)
  (pss_one (ps_ret (pe_or (pe_cmpR op_ne (pe_ix ix_tup (pv 1) pe_int (fun _ _=>rfl)) (pe_ix ix_tup (pv 0) pe_int (fun _ _=>rfl)) (nomark _)) (pe_one (pe_cmpR op_le (pe_ix ix_tup (pv 1) pe_int (fun _ _=>rfl)) (pe_ix ix_tup (pv 0) pe_int (fun _ _=>rfl)) (nomark _))))))))),?_⟩
 have nk:¬ChoOk h l->∀H',Same H H'->Q (.bl false) H':=fun z H' s=>k false H' ⟨fun y=>(nomatch y),fun y=>absurd y z⟩ s
 dsimp only [a_seq]
 k_typeOf
 refine⟨[h.1,h.2.1,h.2.2],hp,by simp,fun M hm hM=>?_⟩
 simp only [List.mem_cons,List.not_mem_nil,or_false,forall_eq_or_imp,forall_eq] at hm hM
 refine ite2 (fun z=>nk (fun y=>by unfold ChoOk at y;omega) _ (Same.refl _)) (fun z=>⟨_,hp,si3,fun p1 n1=>⟨[h.1,h.2.1],SqT.of upd_same,by simp,fun M1 hm1 hM1=>?_⟩⟩)
 have u1:=same_upd n1 (.tup (cutV [.int h.1,.int h.2.1,.int h.2.2] none (some 2)))
 generalize L2.upd H p1 (.tup (cutV [.int h.1,.int h.2.1,.int h.2.2] none (some 2)))=H1 at u1 ⊢
 simp only [List.mem_cons,List.not_mem_nil,or_false,forall_eq_or_imp,forall_eq] at hm1 hM1
 refine ite2 (fun z=>nk (fun y=>by unfold ChoOk at y;omega) _ u1) (fun z=>⟨_,u1.seqT hp,_,rfl,_,rfl,ite2 (fun z=>nk (fun y=>by unfold ChoOk at y;omega) _ u1) (fun z=>⟨_,u1.seqT hq,si3,fun p2 n2=>⟨[l.1,l.2.1],SqT.of upd_same,by simp,fun M2 hm2 hM2=>?_⟩⟩)⟩)
 have u2:=u1.trans (same_upd n2 (.tup (cutV [.int l.1,.int l.2.1,.int l.2.2] none (some 2))))
 generalize L2.upd H1 p2 (.tup (cutV [.int l.1,.int l.2.1,.int l.2.2] none (some 2)))=H2 at u2 ⊢
 simp only [List.mem_cons,List.not_mem_nil,or_false,forall_eq_or_imp,forall_eq] at hm2 hM2
 refine ite2 (fun z=>nk (fun y=>by unfold ChoOk at y;omega) _ u2) (fun z=>⟨_,u2.seqT hq,si3,fun p3 n3=>⟨[l.1,l.2.1],SqT.of upd_same,by simp,fun M3 hm3 hM3=>?_⟩⟩)
 have u3:=u2.trans (same_upd n3 (.tup (cutV [.int l.1,.int l.2.1,.int l.2.2] none (some 2))))
 generalize L2.upd H2 p3 (.tup (cutV [.int l.1,.int l.2.1,.int l.2.2] none (some 2)))=H3 at u3 ⊢
 simp only [List.mem_cons,List.not_mem_nil,or_false,forall_eq_or_imp,forall_eq] at hm3 hM3
 refine ite2 (fun z=>nk (fun y=>by unfold ChoOk at y;omega) _ u3) (fun z=>?_)
 dsimp only [a_seq]
 k_typeOf
 refine⟨_,u3.seqT hq,_,rfl,_,rfl,ite2 (fun z=>nk (fun y=>by unfold ChoOk at y;split at z <;> omega) _ u3) (fun z9=>⟨_,u3.seqT hq,_,rfl,?_⟩)⟩
 have fin:¬(l.1=0∧l.2.1 < 0)->(¬(h.1 - l.1=0∧h.2.1 - l.2.1 < 0)↔ChoOk h l):=fun y=>by
  have a9:-9<=l.2.2∧l.2.2<=9:=by split at z9 <;> omega
  refine⟨fun x=>⟨⟨?_,?_,?_,?_,?_,?_⟩,⟨?_,?_,?_,?_,a9.1,a9.2⟩,y,x⟩,fun x=>x.2.2.2⟩ <;> omega
 rw [a_eqI]
 refine⟨_,rfl,?_⟩
 refine ite2 (fun z1=>⟨_,u3.seqT hq,_,rfl,_,rfl,ite2 (fun z2=>nk (fun y=>y.2.2.1 ⟨of_decide_eq_true z1,z2⟩) _ u3) (fun z2=>⟨_,u3.seqT hq,_,rfl,_,u3.seqT hp,_,rfl,?_⟩)⟩) (fun z1=>⟨_,u3.seqT hq,_,rfl,_,u3.seqT hp,_,rfl,?_⟩)
 ·have y:=fin fun x=>z2 x.2
  rw [a_neI]
  refine⟨_,rfl,ite2 (fun z3=>k true _ ⟨fun _=>y.mp fun x=>?_,fun _=>rfl⟩ u3) (fun z3=>⟨_,u3.seqT hq,_,rfl,_,u3.seqT hp,_,rfl,_,rfl,_,rfl,k _ _ (decide_eq_true_iff.trans (Iff.trans ?_ y)) u3⟩)⟩
  ·simp at z3;omega
  ·simp at z3;omega
 ·have y:=fin fun x=>z1 (decide_eq_true x.1)
  rw [a_neI]
  refine⟨_,rfl,ite2 (fun z3=>k true _ ⟨fun _=>y.mp fun x=>?_,fun _=>rfl⟩ u3) (fun z3=>⟨_,u3.seqT hq,_,rfl,_,u3.seqT hp,_,rfl,_,rfl,_,rfl,k _ _ (decide_eq_true_iff.trans (Iff.trans ?_ y)) u3⟩)⟩
  ·simp at z3;omega
  ·simp at z3;omega
theorem is_pre (t w:List Nat) {x:Str} (hx:x=TX.S w) {k:Int} (hk:k=(w.length:Int)):(Txt.slice (TX.S t) none (some k)=x)↔w.isPrefixOf t=true:=by
 subst hx hk
 rw [sl_to,TX.S_eq,take_pre]
theorem is_suf (t w:List Nat) {x:Str} (hx:x=TX.S w) (hw:w≠[]) {k:Int} (hk:k=-(w.length:Int)):(Txt.slice (TX.S t) (some k) none=x)↔w.isSuffixOf t=true:=by
 subst hx hk
 have h:=sl_last t (w.length - 1)
 have l:=List.length_pos_iff.mpr hw
 rw [show w.length - 1+1=w.length by omega] at h
 rw [h,TX.S_eq,drop_suf hw]
theorem ite_twoL {A B:Prop} [Decidable A] [Decidable B] {L X R:Prop} (l:L) (h1:A->B->X) (h2:¬(A∧B)->R):if A then (L∧if B then X else R) else R:=
 ite2 (fun a=>⟨l,ite2 (fun b=>h1 a b) (fun b=>h2 fun z=>b z.2)⟩) (fun a=>h2 fun z=>a z.1)
def frv (t:List Nat) (v:V) (H:Hp):Prop:=(v=.non∧∀f,NF f->t≠shF f)∨∃r f,v=.ref r∧H r=some (T3 f)∧NF f∧t=shF f
theorem rdf_of {H:Hp} {Q:VK} {t:List Nat} (h:∀v H',Same H H'->frv t v H'->Q v H'):((∀f:F3,NF f->t≠shF f)->newH H Q .non)∧(∀f:F3,NF f->t=shF f->∀r H',Same H H'->H' r=some (T3 f)->Q (.ref r) H'):=
 ⟨fun n H' s=>h _ H' s (.inl ⟨rfl,n⟩),fun f bf e r H' s k=>h _ H' s (.inr ⟨r,f,rfl,k,bf,e⟩)⟩
def rrv (t:List Nat) (v:V) (H:Hp):Prop:=(v=.non∧∀f,Frc f->NB f.1->NB f.2->t≠shR f)∨∃r f,v=.ref r∧H r=some (T2 f)∧Frc f∧NB f.1∧NB f.2∧t=shR f
theorem rdr_of {H:Hp} {Q:VK} {t:List Nat} (h:∀v H',Same H H'->rrv t v H'->Q v H'):((∀f:Int×Int,Frc f->NB f.1->NB f.2->t≠shR f)->newH H Q .non)∧(∀f:Int×Int,Frc f->NB f.1->NB f.2->t=shR f->∀r H',Same H H'->H' r=some (T2 f)->Q (.ref r) H'):=
 ⟨fun n H' s=>h _ H' s (.inl ⟨rfl,n⟩),fun f a b c e r H' s k=>h _ H' s (.inr ⟨r,f,rfl,k,a,b,c,e⟩)⟩
theorem ok__law_part_of {P:Program} {w:World} {K:W.Frag} {mg:Str->Option Value} {base:Heap} (T:Tx K mg):FnOk P w K mg base CX0 5 T.a__law_part_of T.fd__law_part_of ["_law_line"] (spRdP PrtOk prT):=by
 refine T.F__law_part_of.ok sc__law_part_of (fun vs H Q E h=>?_) (fun cdv A outer s H vs Q E hr h=>?_)
 ·obtain⟨t,rfl,_⟩:=h
  rfl
 obtain⟨t,rfl,ll,qy,qn⟩:=h
 refine⟨_,((pss_cons (ps_if (PW.pt (pw_and (pt_cmpR op_eq (pe_slice sl_str (pv 0) po_none (po_some pe_int)) pe_str (nomark _)) (pw_and1 (pt_cmpR op_eq (pe_slice sl_str (pv 0) (po_some (pe_un un_neg pe_int)) po_none) pe_str (nomark _))))) (pss_cons (ps_set (i:=1) sc__law_part_of.nd rfl (Or.inl rfl) (pe_bm PySem.F.plainAttrs_str PySem.F.slot_str_split PySem.F.type_str_split mt_split (pe_slice sl_str (pv 0) (po_some pe_int) (po_some (pe_un un_neg pe_int))) (pa_cons pe_str pa_nil)))
  (pss_cons (ps_if (pt_cmpR op_ne (pe_callB call_len_seq rfl T.z_len bt_len (pa_cons (pv 1) pa_nil)) pe_int (nomark _)) (pss_one (ps_ret pe_non)) pss_nil)
  (pss_cons (ps_set (i:=2) sc__law_part_of.nd rfl (Or.inl rfl) (pe_call (FnOk.mono (ok__law_form_of T) (by decide)) hr rfl T.m__law_form_of T.F__law_form_of.kp T.b__law_form_of .nil pass0 (pa_cons (pe_ix ix_list (pv 1) pe_int (fun _ _=>rfl)) pa_nil)))
  (pss_cons (ps_set (i:=3) sc__law_part_of.nd rfl (Or.inl rfl) (pe_call (FnOk.mono (ok__law_form_of T) (by decide)) hr rfl T.m__law_form_of T.F__law_form_of.kp T.b__law_form_of .nil pass0 (pa_cons (pe_ix ix_list (pv 1) pe_int (fun _ _=>rfl)) pa_nil)))
  (pss_cons (ps_if (PW.pt (pw_or (pt_cmpR op_isN (pv 2) pe_non (nomark _)) (pw_or (pt_cmpR op_isN (pv 3) pe_non (nomark _)) (pw_or1 (pt_not (pt_val (pe_call (FnOk.mono (ok__law_is_choose T) (by decide)) hr rfl T.m__law_is_choose T.F__law_is_choose.kp T.b__law_is_choose .nil pass0 (pa_cons (pv 2) (pa_cons (pv 3) pa_nil))))))))) (pss_one (ps_ret pe_non)) pss_nil)
  (pss_one (ps_ret (pe_tup (pa_cons pe_str (pa_cons (pv 2) (pa_cons (pv 3) pa_nil))))))))))) pss_nil)
  (pss_mid (ps_if (PW.pt (pw_and (pt_cmpR op_eq (pe_slice sl_str (pv 0) po_none (po_some pe_int)) pe_str (nomark _)) (pw_and1 (pt_cmpR op_eq (pe_slice sl_str (pv 0) (po_some (pe_un un_neg pe_int)) po_none) pe_str (nomark _))))) (pss_cons (ps_set (i:=4) sc__law_part_of.nd rfl (Or.inl rfl) (pe_call (FnOk.mono (ok__law_form_of T) (by decide)) hr rfl T.m__law_form_of T.F__law_form_of.kp T.b__law_form_of .nil pass0 (pa_cons (pe_slice sl_str (pv 0) (po_some pe_int) (po_some (pe_un un_neg pe_int))) pa_nil)))
  (pss_one (ps_if (pt_cmpR op_notN (pv 4) pe_non (nomark _)) (pss_one (ps_ret (pe_tup (pa_cons pe_str (pa_cons (pv 4) pa_nil))))) pss_nil))) pss_nil)
  (pss_mid (ps_if (PW.pt (pw_and (pt_cmpR op_eq (pe_slice sl_str (pv 0) po_none (po_some pe_int)) pe_str (nomark _)) (pw_and1 (pt_cmpR op_in_seq (pe_slice sl_str (pv 0) (po_some (pe_un un_neg pe_int)) po_none) (pe_lst (pa_cons pe_str (pa_cons pe_str pa_nil))) (by with_unfolding_all rfl))))) (pss_cons (ps_set (i:=5) sc__law_part_of.nd rfl (Or.inl rfl) (pe_call (FnOk.mono (ok__law_ratio_of T) (by decide)) hr rfl T.m__law_ratio_of T.F__law_ratio_of.kp T.b__law_ratio_of .nil pass0 (pa_cons (pe_slice sl_str (pv 0) (po_some pe_int) (po_some (pe_un un_neg pe_int))) pa_nil)))
  (pss_one (ps_if (PW.pt (pw_and (pt_cmpR op_notN (pv 5) pe_non (nomark _)) (pw_and1 (pt_cmpR op_ne (pe_ix ix_tup (pv 5) pe_int (fun _ _=>rfl)) pe_int (nomark _))))) (pss_one (ps_ret (pe_tup (pa_cons (pe_ix ix_list (pe_lst (pa_cons pe_str (pa_cons pe_str pa_nil))) (pe_callTy call_int1 rfl T.z_int bt_int (pa_cons (pe_cmpR op_eq (pe_ix ix_str (pv 0) (pe_un un_neg pe_int) (fun _ _=>rfl)) pe_str (nomark _)) pa_nil)) (fun _ _=>rfl)) (pa_cons (pv 5) pa_nil))))) pss_nil))) pss_nil)
  (pss_one (ps_ret pe_non)))))),?_⟩
 have lS:(TX.S t).length<=100000:=by rw [TX.S_len];omega
 dsimp only [a_seq]
 k_typeOf
 refine⟨lS,?_⟩
 simp only [is_pre t [67,40] l_C (k:=2) rfl,is_suf t [41] l_cl (by simp) (k:=-1) rfl]
 refine ite_twoL lS (fun hA hB=>?_) (fun nC=>?_)
 ·obtain⟨m,et⟩:=wrap hA hB (by decide)
  have lm:m.length<=3000:=by rw [et] at ll;simp at ll;omega
  have bad:(∀f g,ChoOk f g->m≠TX.jn [44,32] [shF f,shF g])->newH H Q .non:=fun h=>qn fun p hp e=>by
   rw [et] at e
   match p,hp with
   | .cho f g,hp=>
    rw [prT_c] at e
    exact h f g hp (wrap_inj e)
   | .wei f,hp=>exact absurd (List.cons.inj e).1 (by decide)
   | .pow f,hp=>exact absurd (List.cons.inj e).1 (by decide)
   | .gro f,hp=>exact absurd (List.cons.inj e).1 (by decide)
  have esl:Txt.slice (TX.S t) (some 2) (some (-1))=TX.S m:=by rw [et];exact wrap_sl [67,40] m 41 []
  have good:∀f g,ChoOk f g->m=TX.jn [44,32] [shF f,shF g]->∀r H',Same H H'->PtAt H' r (.cho f g)->Q (.ref r) H':=fun f g hc e r H' s' h=>qy (.cho f g) hc (by rw [et,e,prT_c]) r H' s' h
  clear qy qn
  obtain⟨ps,hp,hj,l1,l2⟩:=split_any (w:=[44,32]) (by simp) m
  have due:∀f g,m=TX.jn [44,32] [shF f,shF g]->ps=[shF f,shF g]:=fun f g e=>by
   have no:∀q∈[shF f,shF g],44∉q:=fun q hq z=>by
    rcases List.mem_cons.mp hq with rfl | hq
    ·have:=sh_44 z;omega
    ·rw [List.mem_singleton.mp hq] at z
     have:=sh_44 z;omega
   have hs:=TX.split_jn (w:=[44,32]) (c:=44) (d:=0) rfl (fun e he=>by
    match e,he with
    | 0,_=>rfl
    | 1,he=>simp at he) (by decide) (by simp) no
   rw [← e,hp] at hs
   exact List.map_inj_right (fun _ _=>TX.S_inj) |>.mp hs
  dsimp only [a_seq]
  k_typeOf
  rw [esl,l_cs,hp]
  refine⟨lS,by decide,by rw [TX.S_len];omega,by rw [List.length_map];omega,fun D nD=>?_⟩
  have sD:=same_upd nD (.lst ((ps.map TX.S).map V.str))
  have kD:(L2.upd H D (.lst ((ps.map TX.S).map V.str))) D=some (.lst ((ps.map TX.S).map V.str)):=upd_same
  generalize L2.upd H D (.lst ((ps.map TX.S).map V.str))=H1 at sD kD ⊢
  dsimp only [a_seq]
  k_typeOf
  refine⟨_,.inl (SqL.of kD),?_⟩
  rw [List.length_map,List.length_map]
  refine ite2 (fun h=>bad (fun f g _ e=>h ?_) _ sD) (fun h=>?_)
  ·rw [due f g e];rfl
  obtain⟨p0,p1,rfl⟩:=two_of (l:=ps) (by omega)
  have k0:=l2 p0 (.head _)
  have k1:=l2 p1 (.tail _ (.head _))
  dsimp only [a_seq]
  k_typeOf
  refine⟨_,SqL.of kD,_,rfl,p0,rfl,by omega,And.symm (rdf_of fun v0 H2 s2 hv0=>?_)⟩
  dsimp only [a_seq]
  k_typeOf
  refine⟨_,SqL.of (s2 _ _ kD),_,rfl,p1,rfl,by omega,And.symm (rdf_of fun v1 H3 s3 hv1=>?_)⟩
  have s03:=(sD.trans s2).trans s3
  dsimp only [a_seq]
  k_typeOf
  rcases hv0 with ⟨rfl,h0⟩ | ⟨r0,f,rfl,e0,bf,t0⟩
  ·rw [if_pos (by rfl)]
   refine bad (fun f g hc e=>?_) _ s03
   cases due f g e
   exact h0 f (prt_n (p:=.cho f g) hc).1 rfl
  rw [if_neg (fun z=>nomatch z)]
  rcases hv1 with ⟨rfl,h1⟩ | ⟨r1,g,rfl,e1,bg,t1⟩
  ·rw [if_pos (by rfl)]
   refine bad (fun f g hc e=>?_) _ s03
   cases due f g e
   exact h1 g (prt_n (p:=.cho f g) hc).2 rfl
  rw [if_neg (fun z=>nomatch z)]
  have e0':=s3 _ _ e0
  have fg:∀f' g',ChoOk f' g'->m=TX.jn [44,32] [shF f',shF g']->f'=f∧g'=g:=fun f' g' hc e=>by
   have hd:=due f' g' e
   have hn:=prt_n (p:=.cho f' g') hc
   exact⟨shF_inj hn.1 bf ((List.cons.inj hd).1.symm.trans t0),shF_inj hn.2 bg ((List.singleton_inj.mp (List.cons.inj hd).2).symm.trans t1)⟩
  refine⟨r0,r1,f,g,rfl,SqT.of e0',SqT.of e1,fun b H4 hb s4=>⟨_,rfl,?_⟩⟩
  have s04:=s03.trans s4
  refine ite2 (fun hf=>bad (fun f' g' hc e=>?_) _ s04) (fun hf=>⟨by decide,fun r nr=>?_⟩)
  ·obtain⟨rfl,rfl⟩:=fg f' g' hc e
   rw [hb.mpr hc] at hf
   cases hf
  ·have s9:=same_upd nr (HO.tup [V.str (Str.ofString "choose"),.ref r0,.ref r1])
   have em:m=TX.jn [44,32] [shF f,shF g]:=by rw [← hj,t0,t1]
   exact good f g (hb.mp (eq_true_of_ne_false hf)) em r _ (s04.trans s9) ⟨r0,r1,upd_same,s9 _ _ (s4 _ _ e0'),s9 _ _ (s4 _ _ e1)⟩
 obtain⟨M1,hM1⟩:∃M1:L2.St->Hp->Prop,∀σ Hx,M1 σ Hx↔∃r4,σ=[some (.str (TX.S t)),none,none,none,r4,none]∧Same H Hx∧∀f,NF f->t≠prT (.wei f):=⟨_,fun _ _=>Iff.rfl⟩
 refine mid_of M1 ?_ ?_
 ·skip
  dsimp only [a_seq]
  k_typeOf
  refine⟨lS,?_⟩
  simp only [is_pre t [40] l_op (k:=1) rfl,is_suf t [41] l_cl (by simp) (k:=-1) rfl]
  refine ite_twoL lS (fun hA hB=>?_) (fun nW=>(hM1 _ _).mpr ⟨_,rfl,Same.refl _,fun f bf e=>nW (by rw [e,prT_w];exact⟨wrap_pre _ _,wrap_suf _ _ _⟩)⟩)
  obtain⟨m,et⟩:=wrap hA hB (by decide)
  have lm:m.length<=3000:=by rw [et] at ll;simp at ll;omega
  have esl:Txt.slice (TX.S t) (some 1) (some (-1))=TX.S m:=by rw [et];exact wrap_sl [40] m 41 []
  dsimp only [a_seq]
  k_typeOf
  rw [esl]
  refine⟨lS,m,rfl,lm,And.symm (rdf_of fun v H2 s2 hv=>?_)⟩
  k_units
  rcases hv with ⟨rfl,hn⟩ | ⟨r,f,rfl,er,bf,ef⟩
  ·rw [if_neg (fun z=>z rfl)]
   exact (hM1 _ _).mpr ⟨_,rfl,s2,fun f bf e=>hn f bf (wrap_inj (et.symm.trans (e.trans (prT_w f))))⟩
  ·rw [if_pos (fun z=>nomatch z)]
   refine⟨by decide,fun q nq=>?_⟩
   have s9:=same_upd nq (HO.tup [V.str (Str.ofString "weight"),.ref r])
   exact qy (.wei f) bf (by rw [et,ef,prT_w]) q _ (s2.trans s9) ⟨r,upd_same,s9 _ _ er⟩
 intro σ Hx hm
 obtain⟨r4,rfl,sx,nw⟩:=(hM1 _ _).mp hm
 clear hm hM1 M1
 obtain⟨M2,hM2⟩:∃M2:L2.St->Hp->Prop,∀σ Hx,M2 σ Hx↔Same H Hx∧∀p,PrtOk p->t≠prT p:=⟨_,fun _ _=>Iff.rfl⟩
 have ncho:∀f g,t≠prT (.cho f g):=fun f g e=>nC (by rw [e,prT_c];exact⟨wrap_pre _ _,wrap_suf _ _ _⟩)
 have only:(∀f,PrtOk (.pow f)->t≠prT (.pow f))->(∀f,PrtOk (.gro f)->t≠prT (.gro f))->∀p,PrtOk p->t≠prT p:=fun h1 h2 p hp e=>by
  match p,hp with
  | .cho f g,_=>exact ncho f g e
  | .wei f,hp=>exact nw f hp e
  | .pow f,hp=>exact h1 f hp e
  | .gro f,hp=>exact h2 f hp e
 refine mid_of M2 ?_ ?_
 ·skip
  dsimp only [a_seq]
  k_typeOf
  refine⟨lS,?_⟩
  simp only [is_pre t [91] l_sq (k:=1) rfl]
  refine ite2 (fun hA=>⟨lS,by decide,fun B nB=>⟨_,.inl (SqL.of upd_same),rfl,rfl,?_⟩⟩) (fun hA=>(hM2 _ _).mpr ⟨sx,only (fun f _ e=>hA (by rw [e,prT_p];exact wrap_pre _ _)) (fun f _ e=>hA (by rw [e,prT_g];exact wrap_pre _ _))⟩)
  have sB:=sx.trans (same_upd nB (.lst [V.str (Str.ofString "]^k"),V.str (Str.ofString "]^n")]))
  generalize L2.upd Hx B (.lst [V.str (Str.ofString "]^k"),V.str (Str.ofString "]^n")])=Hy at sB ⊢
  have e3:Txt.slice (TX.S t) (some (-3)) none=TX.S (t.drop (t.length - 3)):=sl_last t 2
  rw [e3,inV_w _ _ _ [93,94,107] [93,94,110] l_upk l_upn]
  refine ite2 (fun hd=>?_) (fun hd=>(hM2 _ _).mpr ⟨sB,only (fun f _ e=>hd (decide_eq_true (.inl ?_))) (fun f _ e=>hd (decide_eq_true (.inr ?_)))⟩)
  rotate_left
  ·exact (drop_suf (w:=[93,94,107]) (by simp)).mpr (by rw [e,prT_p];exact wrap_suf _ _ _)
  ·exact (drop_suf (w:=[93,94,110]) (by simp)).mpr (by rw [e,prT_g];exact wrap_suf _ _ _)
  obtain⟨c,m,hc,et⟩:∃c m,(c=107∨c=110)∧t=[91]++(m++[93,94,c]):=by
   rcases of_decide_eq_true hd with z | z
   ·obtain⟨m,e⟩:=wrap hA ((drop_suf (w:=[93,94,107]) (by simp)).mp z) (by decide)
    exact⟨107,m,.inl rfl,e⟩
   ·obtain⟨m,e⟩:=wrap hA ((drop_suf (w:=[93,94,110]) (by simp)).mp z) (by decide)
    exact⟨110,m,.inr rfl,e⟩
  have lm:m.length<=9000:=by rw [et] at ll;simp at ll;omega
  have esl:Txt.slice (TX.S t) (some 1) (some (-3))=TX.S m:=by rw [et];exact wrap_sl [91] m 93 [94,c]
  have hat:atI (TX.S t).cps.toList (-1)=some c:=by
   rw [TX.S_list,et,show [91]++(m++[93,94,c])=([91]++(m++[93,94]))++[c] by simp]
   exact at_lastN _ _
  clear hd e3
  dsimp only [a_seq]
  k_typeOf
  rw [esl]
  refine⟨lS,m,rfl,lm,And.symm (rdr_of fun v H2 s2 hv=>?_)⟩
  have sH2:=sB.trans s2
  k_units
  have fin:(∀f,Frc f->f.1≠0->NB f.1->NB f.2->m≠shR f)->∀p,PrtOk p->t≠prT p:=fun h=>only (fun f hf e=>?_) (fun f hf e=>?_)
  rotate_left
  ·rcases hc with rfl | rfl
   ·exact h f hf.1 hf.2.1 hf.2.2.1 hf.2.2.2 (wrap_inj (et.symm.trans (e.trans (prT_p f))))
   ·exact absurd (List.append_inj_right' (List.append_cancel_left (et.symm.trans (e.trans (prT_p f)))) rfl) (by decide)
  ·rcases hc with rfl | rfl
   ·exact absurd (List.append_inj_right' (List.append_cancel_left (et.symm.trans (e.trans (prT_g f)))) rfl) (by decide)
   ·exact h f hf.1 hf.2.1 hf.2.2.1 hf.2.2.2 (wrap_inj (et.symm.trans (e.trans (prT_g f))))
  rcases hv with ⟨rfl,hn⟩ | ⟨r,f,rfl,er,hf,b1,b2,ef⟩
  ·rw [if_neg (fun z=>z rfl)]
   exact (hM2 _ _).mpr ⟨sH2,fin fun f a _ b c=>hn f a b c⟩
  ·rw [if_pos (fun z=>nomatch z)]
   refine⟨_,rfl,_,SqT.of er,_,rfl,?_⟩
   rw [a_neI]
   refine⟨_,rfl,ite2 (fun h0=>⟨by decide,fun B2 nB2=>⟨by rw [TX.S_len];exact sl_of (by omega),c,hat,.inr ?_⟩⟩) (fun h0=>(hM2 _ _).mpr ⟨sH2,fin fun g a g0 b c e=>g0 ?_⟩)⟩
   rotate_left
   ·have:f=g:=shR_inj b1 b2 (ef.symm.trans e)
    rw [← this]
    simpa using h0
   have f0:f.1≠0:=by simpa using h0
   have s3:=same_upd nB2 (.lst [V.str (Str.ofString "power"),V.str (Str.ofString "growth")])
   have hk:({ cps:=#[c] }:Str)=Str.ofString "n" ↔ c=110:=by
    rw [l_n,show ({ cps:=#[c] }:Str)=TX.S [c] from rfl,TX.S_eq]
    exact⟨fun z=>List.singleton_inj.mp z,fun z=>by rw [z]⟩
   simp only [hk]
   rcases hc with rfl | rfl
   ·rw [if_neg (by decide)]
    refine⟨_,SqL.of upd_same,_,rfl,by decide,fun q nq=>?_⟩
    have s4:=same_upd nq (HO.tup [V.str (Str.ofString "power"),.ref r])
    exact qy (.pow f) ⟨hf,f0,b1,b2⟩ (by rw [et,ef,prT_p]) q _ ((sH2.trans s3).trans s4) ⟨r,upd_same,s4 _ _ (s3 _ _ er)⟩
   ·rw [if_pos rfl]
    refine⟨_,SqL.of upd_same,_,rfl,by decide,fun q nq=>?_⟩
    have s4:=same_upd nq (HO.tup [V.str (Str.ofString "growth"),.ref r])
    exact qy (.gro f) ⟨hf,f0,b1,b2⟩ (by rw [et,ef,prT_g]) q _ ((sH2.trans s3).trans s4) ⟨r,upd_same,s4 _ _ (s3 _ _ er)⟩
 intro σ Hy hm
 obtain⟨sy,np⟩:=(hM2 _ _).mp hm
 k_units
 exact qn np _ sy
def spIs6 (d:Addr):Sp:=fun vs H Q _=>∃e:Addr,vs=[.ref e,.int 6]∧H e=some (IsExc e d)∧∀H',Same H H'->Q (.bl true) H'
theorem ok__law_is {P:Program} {w:World} {K:W.Frag} {mg:Str->Option Value} {base:Heap} (T:Tx K mg):FnOk P w K mg base CX0 2 T.a__law_is T.fd__law_is ["_law_caught","_law_at"] (spIs6 T.c_NoTerm):=by
 refine T.F__law_is.ok sc__law_is (fun vs H Q E h=>?_) (fun cdv A outer s H vs Q E hr h=>?_)
 ·obtain⟨e,rfl,_⟩:=h
  rfl
 obtain⟨e,rfl,hE,q⟩:=h
 have X:=T.ec_NoTerm
 have h0:=T.ki_NoTerm_NoRule
 have h1:=T.ki_NoTerm_TooGreat
 have h2:=T.ki_NoTerm_TooFew
 have h3:=T.ki_NoTerm_NotKept
 have h4:=T.ki_NoTerm_NoNumber
 have h5:=T.ki_NoTerm_NoPlace
 have h6:=T.ki_NoTerm_NoTerm
 have h7:=T.ki_NoTerm_NoEnds
 have h8:=T.ki_NoTerm_NoLine
 have h9:=T.ki_NoTerm_NoName
 have kv:=T.ki_NoTerm_ValueError
 refine⟨_,((pss_mid (ps_set (i:=2) sc__law_is.nd rfl (Or.inl rfl) (pe_lst (pa_cons (pe_callB call_isinstE rfl T.z_isinstance bt_isinstance (pa_cons (pv 0) (pa_cons (pe_glob (v:=.ref T.c_NoRule) rfl T.mc_NoRule rfl) pa_nil))) (pa_cons (pe_callB call_isinstE rfl T.z_isinstance bt_isinstance (pa_cons (pv 0) (pa_cons (pe_glob (v:=.ref T.c_TooGreat) rfl T.mc_TooGreat rfl) pa_nil))) (pa_cons (pe_callB call_isinstE rfl T.z_isinstance bt_isinstance (pa_cons (pv 0) (pa_cons (pe_glob (v:=.ref T.c_TooFew) rfl T.mc_TooFew rfl) pa_nil))) pa_nil)))))
  (pss_mid (ps_set (i:=2) sc__law_is.nd rfl (Or.inl rfl) (pe_op op_cat (pv 2) (pe_lst (pa_cons (pe_callB call_isinstE rfl T.z_isinstance bt_isinstance (pa_cons (pv 0) (pa_cons (pe_glob (v:=.ref T.c_NotKept) rfl T.mc_NotKept rfl) pa_nil))) (pa_cons (pe_callB call_isinstE rfl T.z_isinstance bt_isinstance (pa_cons (pv 0) (pa_cons (pe_glob (v:=.ref T.c_NoNumber) rfl T.mc_NoNumber rfl) pa_nil))) (pa_cons (pe_callB call_isinstE rfl T.z_isinstance bt_isinstance (pa_cons (pv 0) (pa_cons (pe_glob (v:=.ref T.c_NoPlace) rfl T.mc_NoPlace rfl) pa_nil))) pa_nil))))))
  (pss_mid (ps_set (i:=2) sc__law_is.nd rfl (Or.inl rfl) (pe_op op_cat (pv 2) (pe_lst (pa_cons (pe_callB call_isinstE rfl T.z_isinstance bt_isinstance (pa_cons (pv 0) (pa_cons (pe_glob (v:=.ref T.c_NoTerm) rfl T.mc_NoTerm rfl) pa_nil))) (pa_cons (pe_callB call_isinstE rfl T.z_isinstance bt_isinstance (pa_cons (pv 0) (pa_cons (pe_glob (v:=.ref T.c_NoEnds) rfl T.mc_NoEnds rfl) pa_nil))) (pa_cons (pe_callB call_isinstE rfl T.z_isinstance bt_isinstance (pa_cons (pv 0) (pa_cons (pe_glob (v:=.ref T.c_NoLine) rfl T.mc_NoLine rfl) pa_nil))) pa_nil))))))
  (pss_mid (ps_set (i:=2) sc__law_is.nd rfl (Or.inl rfl) (pe_op op_cat (pv 2) (pe_lst (pa_cons (pe_callB call_isinstE rfl T.z_isinstance bt_isinstance (pa_cons (pv 0) (pa_cons (pe_glob (v:=.ref T.c_NoName) rfl T.mc_NoName rfl) pa_nil))) pa_nil))))
  (pss_cons (ps_if (pt_cmpR (op_neD hr.units) (pv 2) (pe_lcomp rfl (blkok rfl (sub_cons rfl sub_nil) (fv_cons 1 "_law_at" (by decide) rfl (Or.inl rfl) (Or.inl rfl) ⟨_,rfl⟩ fv_nil)) (pi_range1 rfl T.z_range (pa_cons pe_int pa_nil)) (fun _ _ _ _=>(pe_cmpR op_eq (pv 0) (pv 1) (nomark _)))) (nomark _)) (pss_one (ps_ret pe_bl)) pss_nil)
  (pss_one (ps_ret (pe_or (pe_and (pe_cmpR op_eq (pv 1) pe_int (nomark _)) (pe_one (pe_cmpR op_isN (pv 0) pe_non (nomark _)))) (pe_one (pe_callB call_isinstE rfl T.z_isinstance bt_isinstance (pa_cons (pv 0) (pa_cons (pe_bltn (v:=.ty "ValueError") rfl T.z_ValueError bt_ValueError rfl) pa_nil))))))))))))),?_⟩
 obtain⟨M,hM⟩:∃M:L2.St->Hp->Prop,∀σ Hx,M σ Hx↔∃D:Addr,σ=[some (V.ref e),some (V.int 6),some (V.ref D)]∧Hx D=some (.lst [V.bl false,V.bl false,V.bl false])∧Same H Hx:=⟨_,fun _ _=>Iff.rfl⟩
 refine mid_of M ?_ ?_
 ·k_units
  exact⟨_,_,rfl,hE,X,_,h0,_,_,rfl,hE,X,_,h1,_,_,rfl,hE,X,_,h2,by decide,fun D nD=>(hM _ _).mpr ⟨D,rfl,upd_same,same_upd nD _⟩⟩
 intro σ G1 hm
 obtain⟨D1,rfl,g1,w1⟩:=(hM _ _).mp hm
 clear hm hM M
 have E1:=w1 _ _ hE
 obtain⟨M,hM⟩:∃M:L2.St->Hp->Prop,∀σ Hx,M σ Hx↔∃D:Addr,σ=[some (V.ref e),some (V.int 6),some (V.ref D)]∧Hx D=some (.lst [V.bl false,V.bl false,V.bl false,V.bl false,V.bl false,V.bl false])∧Same H Hx:=⟨_,fun _ _=>Iff.rfl⟩
 refine mid_of M ?_ ?_
 ·k_units
  refine⟨_,_,rfl,E1,X,_,h3,_,_,rfl,E1,X,_,h4,_,_,rfl,E1,X,_,h5,by decide,fun pa na=>⟨_,same_upd na _ _ _ g1,_,upd_same,Nat.le_of_lt (small1000 (by simp)),fun D nD=>(hM _ _).mpr ⟨D,rfl,upd_same,w1.trans ((same_upd na _).trans (same_upd nD _))⟩⟩⟩
 intro σ G2 hm
 obtain⟨D2,rfl,g2,w2⟩:=(hM _ _).mp hm
 clear hm hM M
 have E2:=w2 _ _ hE
 obtain⟨M,hM⟩:∃M:L2.St->Hp->Prop,∀σ Hx,M σ Hx↔∃D:Addr,σ=[some (V.ref e),some (V.int 6),some (V.ref D)]∧Hx D=some (.lst [V.bl false,V.bl false,V.bl false,V.bl false,V.bl false,V.bl false,V.bl true,V.bl false,V.bl false])∧Same H Hx:=⟨_,fun _ _=>Iff.rfl⟩
 refine mid_of M ?_ ?_
 ·k_units
  refine⟨_,_,rfl,E2,X,_,h6,_,_,rfl,E2,X,_,h7,_,_,rfl,E2,X,_,h8,by decide,fun pa na=>⟨_,same_upd na _ _ _ g2,_,upd_same,Nat.le_of_lt (small1000 (by simp)),fun D nD=>(hM _ _).mpr ⟨D,rfl,upd_same,w2.trans ((same_upd na _).trans (same_upd nD _))⟩⟩⟩
 intro σ G3 hm
 obtain⟨D3,rfl,g3,w3⟩:=(hM _ _).mp hm
 clear hm hM M
 have E3:=w3 _ _ hE
 obtain⟨M,hM⟩:∃M:L2.St->Hp->Prop,∀σ Hx,M σ Hx↔∃D:Addr,σ=[some (V.ref e),some (V.int 6),some (V.ref D)]∧Hx D=some (.lst [V.bl false,V.bl false,V.bl false,V.bl false,V.bl false,V.bl false,V.bl true,V.bl false,V.bl false,V.bl false])∧Same H Hx:=⟨_,fun _ _=>Iff.rfl⟩
 refine mid_of M ?_ ?_
 ·k_units
  refine⟨_,_,rfl,E3,X,_,h9,by decide,fun pa na=>⟨_,same_upd na _ _ _ g3,_,upd_same,Nat.le_of_lt (small1000 (by simp)),fun D nD=>(hM _ _).mpr ⟨D,rfl,upd_same,w3.trans ((same_upd na _).trans (same_upd nD _))⟩⟩⟩
 intro σ G4 hm
 obtain⟨D4,rfl,g4,w4⟩:=(hM _ _).mp hm
 clear hm hM M
 k_units
 refine⟨by decide,by decide,fun D hD=>?_⟩
 obtain⟨Pc,hPc⟩:∃Pc:Nat->Hp->Prop,∀i H',Pc i H'↔H' D=some (.lst ((List.range i).map fun k:Nat=>V.bl (decide ((k:Int)=6))))∧Same G4 H':=⟨_,fun _ _=>Iff.rfl⟩
 refine cl_range Pc ((hPc _ _).mpr ⟨upd_same,same_upd hD _⟩) ?_ ?_
 ·intro i Hx hi hc
  obtain⟨k1,k2⟩:=(hPc _ _).mp hc
  have e0:(0:Int)+(i:Int)=(i:Int):=Int.zero_add _
  have hi10:i < 10:=hi
  (iterate 3 (k_units;(try simp only [bst,e0,Option.getD_some]));k_units)
  refine⟨_,k1,by rw [List.length_map,List.length_range];exact small1000 (by omega),(hPc _ _).mpr ⟨?_,k2.more hD⟩⟩
  rw [upd_same,List.range_succ,List.map_append];rfl
 intro H1 hc
 obtain⟨k1,k2⟩:=(hPc _ _).mp hc
 have dvb:∀(Hx:Hp) (l:List Bool),DVs K Hx (l.map V.bl) (l.map PyData.bool):=fun Hx l=>by
  induction l with
  | nil=>exact .nil
  | cons x l ih=>exact .cons (.bl x) ih
 have lay:∀l:List Bool,PyData.canLay0 (.list (l.map PyData.bool))=true:=fun l=>by
  have:PyData.canLayAll0 (l.map PyData.bool)=true:=by
   induction l with
   | nil=>rfl
   | cons x l ih=>simp [PyData.canLayAll0,PyData.canLay0,ih]
  simp [PyData.canLay0,this]
 have dep:∀l:List Bool,PyData.depth (.list (l.map PyData.bool))<=64:=fun l=>by
  have:PyData.depthAll (l.map PyData.bool)=0:=by
   induction l with
   | nil=>rfl
   | cons x l ih=>simp [PyData.depthAll,PyData.depth,ih]
  simp [PyData.depth,this]
 have k1':H1 D=some (.lst (((List.range 10).map fun k:Nat=>decide ((k:Int)=6)).map V.bl)):=by rw [k1,List.map_map];rfl
 refine⟨_,DV.lst (SqL.of (k2 _ _ g4)) (dvb H1 [false,false,false,false,false,false,true,false,false,false]),_,DV.lst (SqL.of k1') (dvb H1 _),lay _,lay _,dep _,?_⟩
 rw [if_neg (by decide),if_neg (by decide)]
 exact⟨_,_,rfl,(w4.trans k2) _ _ hE,X,_,kv,q _ (w4.trans k2)⟩
def d3 (f:Int×Int×Int):PyData:=.tuple [.int f.1,.int f.2.1,.int f.2.2]
def d2 (f:Int×Int):PyData:=.tuple [.int f.1,.int f.2]
def dPt:Prt->PyData
 | .cho h l=>.tuple [.str (Str.ofString "choose"),d3 h,d3 l]
 | .wei f=>.tuple [.str (Str.ofString "weight"),d3 f]
 | .pow f=>.tuple [.str (Str.ofString "power"),d2 f]
 | .gro f=>.tuple [.str (Str.ofString "growth"),d2 f]
def dPts (ps:List Prt):PyData:=.list (ps.map dPt)
theorem dv3 {K:W.Frag} {H:Hp} {a:Addr} {f:Int×Int×Int} (h:H a=some (T3 f)):DV K H (.ref a) (d3 f):=.tup (SqT.of h) (.cons (.int _) (.cons (.int _) (.cons (.int _) .nil)))
theorem dv2 {K:W.Frag} {H:Hp} {a:Addr} {f:Int×Int} (h:H a=some (T2 f)):DV K H (.ref a) (d2 f):=.tup (SqT.of h) (.cons (.int _) (.cons (.int _) .nil))
theorem dv_pt {K:W.Frag} {H:Hp} {r:Addr} {p:Prt} (h:PtAt H r p):DV K H (.ref r) (dPt p):=by
 match p,h with
 | .cho f l,⟨a,b,h1,h2,h3⟩=>exact .tup (SqT.of h1) (.cons (.str _) (.cons (dv3 h2) (.cons (dv3 h3) .nil)))
 | .wei f,⟨a,h1,h2⟩=>exact .tup (SqT.of h1) (.cons (.str _) (.cons (dv3 h2) .nil))
 | .pow f,⟨a,h1,h2⟩=>exact .tup (SqT.of h1) (.cons (.str _) (.cons (dv2 h2) .nil))
 | .gro f,⟨a,h1,h2⟩=>exact .tup (SqT.of h1) (.cons (.str _) (.cons (dv2 h2) .nil))
theorem dvs_pts {K:W.Frag} {H:Hp}:∀(rs:List Addr) (ps:List Prt),Pts H rs ps->DVs K H (rs.map V.ref) (ps.map dPt)
 | [],[],_=>.nil
 | r :: rs,p :: ps,h=>.cons (dv_pt (h.get 0 r p rfl rfl)) (dvs_pts rs ps ⟨by have:=h.len;simpa using this,fun i r p e1 e2=>h.get (i+1) r p e1 e2⟩)
 | [],_ :: _,h=>by have:=h.len;simp at this
 | _ :: _,[],h=>by have:=h.len;simp at this
theorem dv_pts {K:W.Frag} {H:Hp} {B:Addr} {rs:List Addr} {ps:List Prt} (e:SqL K H B (rs.map V.ref)) (h:Pts H rs ps):DV K H (.ref B) (dPts ps):=.lst e (dvs_pts rs ps h)
theorem pt_ok (p:Prt):(dPt p).canLay0=true∧(dPt p).depth<=60∧PyData.eqv (dPt p) (dPt p)=true:=by
 cases p <;> simp [dPt,d3,d2,PyData.canLay0,PyData.canLayAll0,PyData.depth,PyData.depthAll,PyData.eqv,PyData.eqvAll] <;> decide +kernel
theorem pts_ok (ps:List Prt):(dPts ps).canLay0=true∧(dPts ps).depth<=64∧PyData.eqv (dPts ps) (dPts ps)=true:=by
 have h:PyData.canLayAll0 (ps.map dPt)=true∧PyData.depthAll (ps.map dPt)<=60∧PyData.eqvAll (ps.map dPt) (ps.map dPt)=true:=by
  induction ps with
  | nil=>exact⟨rfl,Nat.zero_le _,rfl⟩
  | cons p ps ih=>
   obtain⟨a,b,c⟩:=pt_ok p
   obtain⟨i1,i2,i3⟩:=ih
   refine⟨by simp [PyData.canLayAll0,a,i1],?_,by simp [PyData.eqvAll,c,i3]⟩
   simp only [List.map_cons,PyData.depthAll];omega
 obtain⟨h1,h2,h3⟩:=h
 unfold dPts
 refine⟨by simp [PyData.canLay0,h1],?_,by simp [PyData.eqv,h3]⟩
 simp only [PyData.depth];omega
theorem split_ne (x y:Str):Txt.split x y≠[]:=by
 unfold Txt.split
 split
 ·simp
 ·split
  ·simp
  ·rw [StrLaws.partsBetween_eq]
   cases Builtin.Str.occurrences x y 0 x.length (x.length+1) with
   | nil=>simp [StrLaws.partsFrom]
   | cons a r=>simp [StrLaws.partsFrom]
theorem nons_ok (k:Nat):(PyData.list (List.replicate k .none)).canLay0=true∧(PyData.list (List.replicate k .none)).depth<=64∧(PyData.eqv (.list (List.replicate k .none)) (.list [])=true↔k=0):=by
 have h:PyData.canLayAll0 (List.replicate k .none)=true∧PyData.depthAll (List.replicate k .none)<=60:=by
  induction k with
  | zero=>exact⟨rfl,Nat.zero_le _⟩
  | succ k ih=>
   refine⟨by simp only [List.replicate_succ,PyData.canLayAll0,PyData.canLay0,Bool.true_and];exact ih.1,?_⟩
   simp only [List.replicate_succ,PyData.depthAll,PyData.depth]
   have:=ih.2
   omega
 refine⟨by simp [PyData.canLay0,h.1],?_,?_⟩
 ·simp only [PyData.depth]
  have:=h.2
  omega
 ·cases k with
  | zero=>exact⟨fun _=>rfl,fun _=>rfl⟩
  | succ k=>exact⟨fun h=>by simp [List.replicate_succ,PyData.eqv,PyData.eqvAll] at h,fun h=>nomatch h⟩
theorem dv_nons {K:W.Frag} {H:Hp}:∀k:Nat,DVs K H (List.replicate k V.non) (List.replicate k PyData.none)
 | 0=>.nil
 | k+1=>.cons .non (dv_nons k)
def spJud:Sp:=fun vs H Q _=>∃t:List Nat,vs=[.str (TX.S t)]∧t.length<=3000∧newH H Q (.bl true)
theorem ok__law_judged {P:Program} {w:World} {K:W.Frag} {mg:Str->Option Value} {base:Heap} (T:Tx K mg):FnOk P w K mg base CX0 9 T.a__law_judged T.fd__law_judged ["_law_line"] spJud:=by
 refine T.F__law_judged.ok sc__law_judged (fun vs H Q E h=>?_) (fun cdv A outer s H vs Q E hr h=>?_)
 ·obtain⟨t,rfl,_⟩:=h
  rfl
 obtain⟨t,rfl,ll,q⟩:=h
 refine⟨_,((pss_cons (ps_setC (i:=1) rfl (blkok rfl sub_nil fv_nil) (pi_list (pe_bm PySem.F.plainAttrs_str PySem.F.slot_str_split PySem.F.type_str_split mt_split (pv 0) (pa_cons pe_str pa_nil))) (fun _ _ _ _=>(pe_call (FnOk.mono (ok__law_part_of T) (by decide)) hr rfl T.m__law_part_of T.F__law_part_of.kp T.b__law_part_of .nil pass0 (pa_cons (pv 0) pa_nil))) sc__law_judged.nd rfl rfl)
  (pss_mid (ps_set (i:=2) sc__law_judged.nd rfl (Or.inl rfl) (pe_and (pe_cmpR op_lt (pe_callB call_len_seq rfl T.z_len bt_len (pa_cons (pv 1) pa_nil)) pe_int (nomark _)) (pe_one (pe_cmpR (op_eqD hr.units) (pe_lcompIf rfl (blkok rfl sub_nil fv_nil) (pi_list (pv 1)) (fun _ _ _ _=>(pt_cmpR op_isN (pv 0) pe_non (nomark _))) (fun _ _ _ _=>(pv 0))) (pe_lst pa_nil) (nomark _)))))
  (pss_cons (ps_set (i:=3) sc__law_judged.nd rfl (Or.inl rfl) pe_non)
  (pss_cons (ps_set (i:=4) sc__law_judged.nd rfl (Or.inl rfl) pe_non)
  (pss_cons (ps_tryAs (i:=5) ⟨rfl,rfl⟩ (px_set (i:=4) sc__law_judged.nd rfl (Or.inl rfl) (px_call (FnOk.mono (ok_read_term T) (by decide)) hr rfl T.m_read_term T.F_read_term.kp T.b_read_term (pa_cons (pv 0) pa_nil))) rfl T.mc_SumError sc__law_judged.nd rfl rfl (fun _=>(pss_one (ps_set (i:=3) sc__law_judged.nd rfl (Or.inl rfl) (pv 5)))))
  (pss_cons (ps_if (pt_not (pt_val (pv 2))) (pss_one (ps_ret (pe_call (FnOk.mono (ok__law_is T) (by decide)) hr rfl T.m__law_is T.F__law_is.kp T.b__law_is .nil pass0 (pa_cons (pv 3) (pa_cons pe_int pa_nil))))) pss_nil)
  (pss_one (ps_ret (pe_and (pe_cmpR op_isN (pv 3) pe_non (nomark _)) (pe_and (pe_callB call_isinstC rfl T.z_isinstance bt_isinstance (pa_cons (pv 4) (pa_cons (pe_glob (v:=.ref T.c_Term) rfl T.mc_Term rfl) pa_nil))) (pe_one (pe_cmpR (op_eqD hr.units) (pe_meth0 (pv 4) T.cl_Term T.me_Term_told (FnOk.mono (ok_Term_told T) (by decide)) hr T.b_Term_told .nil pass0) (pv 1) (nomark _)))))))))))))),?_⟩
 dsimp only [a_seq]
 k_typeOf
 obtain⟨pcs,hp,hj,l1,l2⟩:=split_any (w:=[32,42,32]) (by simp) t
 rw [l_st,hp]
 refine⟨by decide,by rw [TX.S_len];omega,by rw [List.length_map];omega,fun A0 nA=>⟨A0,rfl,⟨_,SqL.of upd_same⟩,fun D nD=>?_⟩⟩
 have s0:=same_upd nA (.lst ((pcs.map TX.S).map V.str))
 have due:∀ps:List Prt,ps≠[]->t=trT ps->pcs=ps.map prT:=fun ps h0 e=>by
  have hs:=TX.split_jn (w:=[32,42,32]) (c:=42) (d:=1) rfl (fun e he=>by
   match e,he with
   | 0,he=>simp at he
   | 1,_=>rfl
   | 2,he=>simp at he) (by decide) (ps:=ps.map prT) (by simpa using h0) (fun q hq=>by
    obtain⟨p,_,rfl⟩:=List.mem_map.mp hq
    exact prT_42 p)
  rw [show TX.jn [32,42,32] (ps.map prT)=t from e.symm,hp] at hs
  exact List.map_inj_right (fun _ _=>TX.S_inj) |>.mp hs
 refine cl_rel (fun i z H=>(z=.non∧∀p,PrtOk p->pcs[i]?≠some (prT p))∨∃r p,z=.ref r∧PtAt H r p∧PrtOk p∧pcs[i]?=some (prT p)) (xs:=(pcs.map TX.S).map V.str) nD (SqL.of upd_same) (by rw [List.length_map,List.length_map];omega) ?_ ?_ ?_
 ·rintro i z H1 H2 k (h | ⟨r,p,e,h1,h2⟩)
  ·exact .inl h
  ·exact .inr ⟨r,p,e,h1.kt k,h2⟩
 ·intro i v Hx R hv sx hR
  rw [List.getElem?_map,List.getElem?_map] at hv
  obtain⟨y,hy,rfl⟩:=Option.map_eq_some_iff.mp hv
  obtain⟨pc,hpc,rfl⟩:=Option.map_eq_some_iff.mp hy
  have lp:=l2 pc (List.mem_of_getElem? hpc)
  (iterate 3 (k_units;(try simp only [bst]));k_units)
  refine⟨pc,rfl,by omega,fun p bp e r H' s' k=>hR _ H' s' (.inr ⟨r,p,rfl,k,bp,by rw [hpc,e]⟩),fun h H' s'=>hR _ H' s' (.inl ⟨rfl,fun p bp e=>?_⟩)⟩
  rw [hpc] at e
  exact h p bp (Option.some.inj e)
 intro zs lz D' H' rl s' nD' kD'
 rw [List.length_map,List.length_map] at lz
 have sH:Same H H':=s0.trans s'
 have pn:pcs≠[]:=fun z=>split_ne (TX.S t) (TX.S [32,42,32]) (by rw [hp,z];rfl)
 have allp:(zs.length < 7∧∀z∈zs,z≠V.non)->∃(rs:List Addr) (qs:List Prt),zs=rs.map V.ref∧Pts H' rs qs∧TOk t qs:=fun hg=>by
  have all:∀(i:Nat) (z:V),zs[i]?=some z->∃r p,z=.ref r∧PtAt H' r p∧PrtOk p∧pcs[i]?=some (prT p):=fun i z hi=>by
   rcases rl i z hi with ⟨e,_⟩ | h
   ·exact absurd e (hg.2 z (List.mem_of_getElem? hi))
   ·exact h
  obtain⟨rs,qs,ez,hQ,nq,eq⟩:∃(rs:List Addr) (qs:List Prt),zs=rs.map V.ref∧Pts H' rs qs∧(∀p∈qs,PrtOk p)∧pcs=qs.map prT:=by
   clear kD' rl hj l2 l1 hp due q s' nD nD' s0 hg pn
   induction zs generalizing pcs with
   | nil=>
    refine⟨[],[],rfl,⟨rfl,fun i r p e=>by simp at e⟩,fun p hp=>(nomatch hp),?_⟩
    exact List.eq_nil_of_length_eq_zero lz.symm
   | cons z zs ih=>
    match pcs,lz with
    | pc :: pcs,lz=>
     obtain⟨r,p,e1,h1,h2,h3⟩:=all 0 z rfl
     obtain⟨rs,qs,e2,h4,h5,h6⟩:=ih (pcs:=pcs) (by simpa using lz) (fun i z hi=>all (i+1) z hi)
     refine⟨r :: rs,p :: qs,by rw [e1,e2];rfl,⟨by simp [h4.len],fun i r' p' e e'=>?_⟩,fun p' hp=>?_,by rw [h6];cases Option.some.inj h3;rfl⟩
     ·cases i with
      | zero=>cases e;cases e';exact h1
      | succ i=>exact h4.get i r' p' e e'
     ·rcases List.mem_cons.mp hp with rfl | hp
      ·exact h2
      ·exact h5 p' hp
  have l7:=hg.1
  have lq:=congrArg List.length eq
  rw [List.length_map] at lq
  have:=List.length_pos_iff.mpr pn
  exact⟨rs,qs,ez,hQ,by omega,by omega,nq,by rw [← hj,eq];rfl⟩
 have back:∀ps,TOk t ps->zs.length < 7∧∀z∈zs,z≠V.non:=fun ps ⟨l1,l6,ok,e⟩=>by
  have e2:=due ps (fun z=>by rw [z] at l1;simp at l1) e
  refine⟨by rw [lz,e2,List.length_map];omega,fun z hz ez=>?_⟩
  obtain⟨i,hi⟩:=List.getElem?_of_mem hz
  have i2:i < ps.length:=by
   have:=(List.getElem?_eq_some_iff.mp hi).1
   rw [lz,e2,List.length_map] at this
   exact this
  rcases rl i z hi with ⟨_,g1⟩ | ⟨r,p,e,_⟩
  ·exact g1 ps[i] (ok _ (List.getElem_mem i2)) (by rw [e2,List.getElem?_map,List.getElem?_eq_getElem i2];rfl)
  ·rw [e] at ez;cases ez
 obtain⟨M,hM⟩:∃M:L2.St->Hp->Prop,∀σ Hx,M σ Hx↔∃b:Bool,σ=[some (.str (TX.S t)),some (.ref D'),some (.bl b),none,none,none]∧Same H' Hx∧(b=true↔zs.length < 7∧∀z∈zs,z≠V.non):=⟨_,fun _ _=>Iff.rfl⟩
 refine mid_of M ?_ ?_
 ·k_units
  refine⟨_,.inl (SqL.of kD'),ite2 (fun h7=>⟨⟨_,SqL.of kD'⟩,fun L nL=>?_⟩) (fun h7=>?_)⟩
  ·obtain⟨Pc,hPc⟩:∃Pc:Nat->Hp->Prop,∀j Hx,Pc j Hx↔∃k:Nat,Hx L=some (.lst (List.replicate k V.non))∧Same H' Hx∧k<=j∧(k=0↔∀z∈zs.take j,z≠V.non):=⟨_,fun _ _=>Iff.rfl⟩
   refine cl_listIf (xs:=zs) Pc ((hPc _ _).mpr ⟨0,upd_same,same_upd nL _,Nat.le_refl _,⟨fun _ z hz=>(nomatch hz),fun _=>rfl⟩⟩) (fun i Hx _ z=>by obtain⟨_,_,z,_⟩:=(hPc i Hx).mp z;exact SqL.of (z _ _ kD')) ?_ ?_
   ·intro i v Hx hv hc
    obtain⟨k,k1,k2,k3,k4⟩:=(hPc _ _).mp hc
    have tk:zs.take (i+1)=zs.take i++[v]:=by
     obtain⟨hi,e⟩:=List.getElem?_eq_some_iff.mp hv
     rw [← List.take_append_getElem hi,e]
    have hi:=(List.getElem?_eq_some_iff.mp hv).1
    (iterate 3 (k_units;(try simp only [bst]));k_units)
    refine ite2 (fun hn=>⟨_,k1,by rw [List.length_replicate];exact small1000 (by omega),(hPc _ _).mpr ⟨k+1,by rw [upd_same,List.replicate_succ',hn],k2.more nL,by omega,?_⟩⟩) (fun hn=>(hPc _ _).mpr ⟨k,k1,k2,by omega,?_⟩)
    ·rw [tk]
     exact⟨fun z=>by omega,fun z=>absurd hn (z v (by simp))⟩
    ·rw [tk,k4]
     refine⟨fun z y hy=>?_,fun z y hy=>z y (List.mem_append_left _ hy)⟩
     rcases List.mem_append.mp hy with hy | hy
     ·exact z y hy
     ·rw [List.mem_singleton.mp hy];exact hn
   intro Hx hc
   obtain⟨k,k1,k2,_,k4⟩:=(hPc _ _).mp hc
   rw [List.take_length] at k4
   obtain⟨o1,o2,o3⟩:=nons_ok k
   refine⟨by decide,fun B nB=>?_⟩
   have sB:=same_upd nB (.lst [])
   refine⟨_,.lst (SqL.of (sB _ _ k1)) (dv_nons k),_,.lst (SqL.of upd_same) .nil,o1,rfl,o2,(hM _ _).mpr ⟨_,rfl,k2.trans sB,?_⟩⟩
   rw [o3,k4]
   exact⟨fun z=>⟨by omega,z⟩,fun z=>z.2⟩
  ·exact (hM _ _).mpr ⟨_,rfl,Same.refl _,⟨fun z=>(nomatch z),fun z=>absurd z.1 (by omega)⟩⟩
 intro σ Hx hm
 obtain⟨b,rfl,sx,hb⟩:=(hM _ _).mp hm
 clear hm hM M
 dsimp only [a_seq]
 k_typeOf
 dsimp only [a_seq]
 k_typeOf
 dsimp only [a_seq]
 k_typeOf
 cases b with
 | false=>
  refine⟨t,rfl,ll,.inr ⟨fun ps h=>(nomatch hb.mpr (back ps h)),fun H1 s1=>⟨_,rfl,T.kc_NoTerm_SumError,fun a na=>?_⟩⟩⟩
  dsimp only [a_seq]
  k_typeOf
  exact⟨a,rfl,upd_same,fun H3 s3=>q _ (((sH.trans sx).trans s1).trans ((same_upd na _).trans s3))⟩
 | true=>
  obtain⟨rs,qs,ez,hQ,tok⟩:=allp (hb.mp rfl)
  refine⟨t,rfl,ll,.inl ⟨qs,tok.1,tok.2.1,tok.2.2.1,tok.2.2.2,fun x H0 H1 rs1 s0 s1 hx hP1=>?_⟩⟩
  dsimp only [a_seq]
  k_typeOf
  rw [if_neg (by decide)]
  obtain⟨dx,Q1,Q2,qs2,h1,h2⟩:=id hx
  refine⟨_,T.oc_Term.ty T.cl_Term h1,true,T.ki_Term_Term,?_⟩
  rw [if_pos rfl]
  refine⟨dx,_,h1,rfl,x,H0,rs1,qs,rfl,hx,fun R H8 w8 nR eR=>?_⟩
  obtain⟨y1,y2,y3⟩:=pts_ok qs
  have w:=(sx.trans s1).trans w8
  rw [ez] at kD'
  refine⟨_,dv_pts (SqL.of eR) (hP1.on w8),_,dv_pts (SqL.of (w _ _ kD')) (hQ.on w),y1,y1,y2,?_⟩
  rw [y3]
  exact q _ (sH.trans w)
def cell (ns:List Int) (k:Nat):Int:=ns.getD k 0
def spCellAt (K:W.Frag):Sp:=fun vs H Q _=>∃(a:Addr) (ns:List Int) (k:Nat),vs=[.ref a,.int (k:Int)]∧SqL K H a (ns.map V.int)∧Q (.int (cell ns k)) H
theorem ok__law_cell_at {P:Program} {w:World} {K:W.Frag} {mg:Str->Option Value} {base:Heap} (T:Tx K mg):FnOk P w K mg base CX0 1 T.a__law_cell_at T.fd__law_cell_at ["_law_script","_law_k"] (spCellAt K):=by
 refine T.F__law_cell_at.ok sc__law_cell_at (fun vs H Q E h=>?_) (fun cdv A outer s H vs Q E hr h=>?_)
 ·obtain⟨a,ns,k,rfl,_⟩:=h
  rfl
 obtain⟨a,ns,k,rfl,hS,q⟩:=h
 refine⟨_,((pss_cons (ps_if (pt_cmpR op_lt (pv 1) (pe_callB call_len_seq rfl T.z_len bt_len (pa_cons (pv 0) pa_nil)) (nomark _)) (pss_one (ps_ret (pe_ix ix_list (pv 0) (pv 1) (fun _ _=>rfl)))) pss_nil)
  (pss_one (ps_ret pe_int)))),?_⟩
 k_units
 refine⟨_,.inl hS,?_⟩
 rw [List.length_map]
 unfold cell at q
 refine ite2 (fun h=>?_) (fun h=>?_)
 ·have h':k < ns.length:=by omega
  rw [List.getD_eq_getElem?_getD,List.getElem?_eq_getElem h'] at q
  exact⟨_,hS,_,at_int h',q⟩
 ·rw [List.getD_eq_getElem?_getD,List.getElem?_eq_none (by omega)] at q
  exact q
def spNum13:Sp:=fun vs H Q _=>∃(c m:Int),vs=[.int c,.int m]∧(m=10 ^ 60∨m=10 ^ 20∨m=10 ^ 59)∧∀n:Int,n.natAbs < m.natAbs->Q (.int n) H
theorem ok__law_number {P:Program} {w:World} {K:W.Frag} {mg:Str->Option Value} {base:Heap} (T:Tx K mg):FnOk P w K mg base CX0 1 T.a__law_number T.fd__law_number ["_law_cell","_law_most"] spNum13:=by
 refine T.F__law_number.ok sc__law_number (fun vs H Q E h=>?_) (fun cdv A outer s H vs Q E hr h=>?_)
 ·obtain⟨c,m,rfl,_⟩:=h
  rfl
 obtain⟨c,m,rfl,hm,q⟩:=h
 refine⟨_,((pss_cons (ps_if (pt_cmpR op_eq (pe_op op_mod (pv 0) pe_int) pe_int (nomark _)) (pss_one (ps_ret (pe_op op_add (pe_op op_sub (pe_op op_mod (pe_op op_fdiv (pv 0) pe_int) (pe_op op_sub (pe_op op_mul pe_int (pv 1)) pe_int)) (pv 1)) pe_int))) pss_nil)
  (pss_cons (ps_if (pt_cmpR op_eq (pe_op op_mod (pv 0) pe_int) pe_int (nomark _)) (pss_one (ps_ret (pe_op op_sub (pe_op op_mod (pe_op op_fdiv (pv 0) pe_int) pe_int) pe_int))) pss_nil)
  (pss_one (ps_ret (pe_op op_sub (pe_op op_mod (pe_op op_fdiv (pv 0) pe_int) pe_int) pe_int)))))),?_⟩
 k_units
 have d:CDiv c 3:=⟨by decide,by decide⟩
 have big:10 ^ 18<=m.natAbs∧(0:Int) < m:=by rcases hm with rfl | rfl | rfl <;> decide
 refine⟨by decide,ite2 (fun h=>?_) (fun h=>⟨by decide,ite2 (fun h2=>?_) (fun h2=>?_)⟩)⟩
 ·have h1:=Int.emod_nonneg (c / 3) (show (2 * m - 1:Int)≠0 by omega)
  have h2:=Int.emod_lt_of_pos (c / 3) (show (0:Int) < 2 * m - 1 by omega)
  exact⟨d,.inl ⟨by decide,by decide⟩,by omega,q _ (by omega)⟩
 ·exact⟨d,by decide,q _ (by omega)⟩
 ·exact⟨d,by decide,q _ (by omega)⟩
def spMixed:Sp:=fun vs H Q _=>∃(c:Int) (k:Nat),vs=[.int c,.int (k:Int)]∧k<=12∧∀n:Int,0<=n->Q (.int n) H
theorem ok__law_mixed {P:Program} {w:World} {K:W.Frag} {mg:Str->Option Value} {base:Heap} (T:Tx K mg):FnOk P w K mg base CX0 1 T.a__law_mixed T.fd__law_mixed ["_law_cell","_law_k"] spMixed:=by
 refine T.F__law_mixed.ok sc__law_mixed (fun vs H Q E h=>?_) (fun cdv A outer s H vs Q E hr h=>?_)
 ·obtain⟨c,k,rfl,_⟩:=h
  rfl
 obtain⟨c,k,rfl,hk,q⟩:=h
 refine⟨_,((pss_cons (ps_if (pt_cmpR op_eq (pe_op op_mod (pv 0) pe_int) pe_int (nomark _)) (pss_cons (ps_set (i:=2) sc__law_mixed.nd rfl (Or.inl rfl) (pe_op op_fdiv (pe_callB call_abs rfl T.z_abs bt_abs (pa_cons (pv 0) pa_nil)) pe_int))
  (pss_cons (ps_for PassesOwn.never rfl (pi_range1 rfl T.z_range (pa_cons (pv 1) pa_nil)) (pg_name (i:=3) sc__law_mixed.nd rfl (Or.inl rfl)) (pss_one (ps_set (i:=2) sc__law_mixed.nd rfl (Or.inl rfl) (pe_op op_fdivB (pv 2) (pe_op op_pow pe_int pe_int)))))
  (pss_one (ps_ret (pv 2))))) pss_nil)
  (pss_cons (ps_set (i:=2) sc__law_mixed.nd rfl (Or.inl rfl) (pe_op op_mod (pe_op op_add (pv 0) (pe_op op_mul pe_int (pv 1))) pe_int))
  (pss_cons (ps_set (i:=2) sc__law_mixed.nd rfl (Or.inl rfl) (pe_op op_mod (pe_op op_add (pe_op op_add (pe_op op_mulZ (pv 2) (pv 2)) (pe_op op_mul pe_int (pv 2))) (pv 1)) pe_int))
  (pss_one (ps_ret (pe_op op_mod (pe_op op_mulZ (pv 2) (pv 2)) pe_int))))))),?_⟩
 k_units
 have bd12:((10:Int) ^ Int.toNat 12).natAbs < 2 ^ 9000:=Nat.lt_of_lt_of_le (show _ < 2 ^ 40 by decide) (Nat.pow_le_pow_right (by decide) (by decide))
 refine⟨by decide,ite2 (fun h=>⟨⟨by decide,by decide⟩,by omega,by omega,?_⟩) (fun h=>?_)⟩
 ·have h0:0<=(if c < 0 then -c else c) / 2:=by split <;> omega
  generalize (if c < 0 then -c else c) / 2=n0 at h0
  rw [Int.toNat_natCast]
  obtain⟨Pv,hPv⟩:∃Pv:Nat->L2.St->Hp->Prop,∀i σ H',Pv i σ H'↔∃(n:Int) (r3:Option V),σ=[some (V.int c),some (V.int (k:Int)),some (V.int n),r3]∧0<=n∧H'=H:=⟨_,fun _ _ _=>Iff.rfl⟩
  refine lp_range Pv ((hPv _ _ _).mpr ⟨n0,none,rfl,h0,rfl⟩) ?_ ?_
  ·intro i σ H' hi hp
   obtain⟨n,r3,rfl,hn,rfl⟩:=(hPv _ _ _).mp hp
   k_units
   exact⟨⟨by decide,by decide,by decide⟩,by decide,bd12,(hPv _ _ _).mpr ⟨n.fdiv ((10:Int) ^ Int.toNat 12),_,rfl,Int.fdiv_nonneg hn (by decide),rfl⟩⟩
  ·intro σ H' hp
   obtain⟨n,r3,rfl,hn,rfl⟩:=(hPv _ _ _).mp hp
   k_units
   exact q n hn
 ·obtain⟨m,hm,m0,m1⟩:∃m:Int,(c+7919 * (k:Int)) % 2147483629=m∧0<=m∧m < 2147483629:=⟨_,rfl,by omega,by omega⟩
  rw [hm]
  obtain⟨m',hm',m0',m1'⟩:∃m':Int,(m * m+16807 * m+(k:Int)) % 2147483629=m'∧0<=m'∧m' < 2147483629:=⟨_,rfl,Int.emod_nonneg _ (by decide),Int.emod_lt_of_pos _ (by decide)⟩
  rw [hm']
  have bm:Bd 31 m:=Bd.of_lt (m:=2147483629) (by omega) (by decide)
  have bm':Bd 31 m':=Bd.of_lt (m:=2147483629) (by omega) (by decide)
  exact⟨.inl ⟨by decide,by decide⟩,by decide,bm.fits bm (by decide),.inl ⟨by decide,by decide⟩,by decide,bm'.fits bm' (by decide),by decide,q _ (Int.emod_nonneg _ (by decide))⟩
def mkPt (H:Hp) (Q:VK) (p:Prt):Prop:=∀(r:Addr) (H':Hp),Same H H'->PtAt H' r p->Q (.ref r) H'
def spFms:Sp:=fun vs H Q _=>∃a b:Int,vs=[.int a,.int b,.int 3]∧0<=a∧0<=b∧∀h l,ChoOk h l->mkPt H Q (.cho h l)
theorem ok__law_forms {P:Program} {w:World} {K:W.Frag} {mg:Str->Option Value} {base:Heap} (T:Tx K mg):FnOk P w K mg base CX0 1 T.a__law_forms T.fd__law_forms ["_law_one","_law_other","_law_most"] spFms:=by
 refine T.F__law_forms.ok sc__law_forms (fun vs H Q E h=>?_) (fun cdv A outer s H vs Q E hr h=>?_)
 ·obtain⟨a,b,rfl,_⟩:=h
  rfl
 obtain⟨a,b,rfl,ha,hb,k⟩:=h
 refine⟨_,((pss_cons (ps_set (i:=3) sc__law_forms.nd rfl (Or.inl rfl) (pe_tup (pa_cons (pe_op op_mod (pv 0) (pe_op op_add (pv 2) pe_int)) (pa_cons (pe_op op_mod (pe_op op_fdiv (pv 0) pe_int) (pe_op op_add (pv 2) pe_int)) (pa_cons (pe_op op_mod (pe_op op_fdiv (pv 0) pe_int) pe_int) pa_nil)))))
  (pss_mid (ps_if (pt_cmpR op_eq (pe_op op_mod (pe_op op_fdiv (pv 0) pe_int) pe_int) pe_int (nomark _)) (pss_one (ps_set (i:=4) sc__law_forms.nd rfl (Or.inl rfl) (pe_tup (pa_cons (pe_op op_mod (pv 1) (pe_op op_add (pe_ix ix_tup (pv 3) pe_int (fun _ _=>rfl)) pe_int)) (pa_cons (pe_op op_sub (pe_op op_mod (pe_op op_fdiv (pv 1) pe_int) pe_int) pe_int) (pa_cons (pe_op op_mod (pe_op op_fdiv (pv 1) pe_int) (pe_op op_add (pe_ix ix_tup (pv 3) pe_int (fun _ _=>rfl)) pe_int)) pa_nil)))))) (pss_one (ps_set (i:=4) sc__law_forms.nd rfl (Or.inl rfl) (pe_tup (pa_cons (pe_op op_sub (pe_op op_mod (pv 1) (pe_op op_add (pe_op op_mul pe_int (pv 2)) pe_int)) (pv 2)) (pa_cons (pe_op op_sub (pe_op op_mod (pe_op op_fdiv (pv 1) pe_int) (pe_op op_add (pe_op op_mul pe_int (pv 2)) pe_int)) (pv 2)) (pa_cons (pe_op op_sub (pe_op op_mod (pe_op op_fdiv (pv 1) pe_int) pe_int) pe_int) pa_nil)))))))
  (pss_mid (ps_if (PW.pt (pw_and (pt_cmpR op_eq (pe_ix ix_tup (pv 4) pe_int (fun _ _=>rfl)) pe_int (nomark _)) (pw_and1 (pt_cmpR op_lt (pe_ix ix_tup (pv 4) pe_int (fun _ _=>rfl)) pe_int (nomark _))))) (pss_one (ps_set (i:=4) sc__law_forms.nd rfl (Or.inl rfl) (pe_tup (pa_cons pe_int (pa_cons (pe_un un_neg (pe_ix ix_tup (pv 4) pe_int (fun _ _=>rfl))) (pa_cons (pe_ix ix_tup (pv 4) pe_int (fun _ _=>rfl)) pa_nil)))))) pss_nil)
  (pss_mid (ps_if (PW.pt (pw_and (pt_cmpR op_eq (pe_ix ix_tup (pv 4) pe_int (fun _ _=>rfl)) (pe_ix ix_tup (pv 3) pe_int (fun _ _=>rfl)) (nomark _)) (pw_and1 (pt_cmpR op_gt (pe_ix ix_tup (pv 4) pe_int (fun _ _=>rfl)) (pe_ix ix_tup (pv 3) pe_int (fun _ _=>rfl)) (nomark _))))) (pss_one (ps_set (i:=4) sc__law_forms.nd rfl (Or.inl rfl) (pe_tup (pa_cons (pe_ix ix_tup (pv 4) pe_int (fun _ _=>rfl)) (pa_cons (pe_ix ix_tup (pv 3) pe_int (fun _ _=>rfl)) (pa_cons (pe_ix ix_tup (pv 4) pe_int (fun _ _=>rfl)) pa_nil)))))) pss_nil)
  (pss_one (ps_ret (pe_tup (pa_cons pe_str (pa_cons (pv 3) (pa_cons (pv 4) pa_nil))))))))))),?_⟩
 have d:∀c:Int,0 < c->c < 2 ^ 30->CDiv a c∧CDiv b c:=fun c h1 h2=>⟨⟨h1,h2⟩,⟨h1,h2⟩⟩
 dsimp only [a_seq]
 k_typeOf
 refine⟨by decide,(d _ (by decide) (by decide)).1,by decide,(d _ (by decide) (by decide)).1,by decide,by decide,fun p np=>?_⟩
 obtain⟨h,hh⟩:∃h:Int×Int×Int,h=(a % (3+1),a / 4 % (3+1),a / 16 % 10):=⟨_,rfl⟩
 have hb':0<=h.1∧h.1<=3∧0<=h.2.1∧h.2.1<=3∧0<=h.2.2∧h.2.2<=9:=by rw [hh];refine⟨?_,?_,?_,?_,?_,?_⟩ <;> (dsimp only;omega)
 obtain⟨G,hG⟩:∃G,G=L2.upd H p (.tup [V.int (a % (3+1)),V.int (a / 4 % (3+1)),V.int (a / 16 % 10)]):=⟨_,rfl⟩
 have gp:G p=some (T3 h):=by rw [hG,hh];exact upd_same
 have s0:Same H G:=by rw [hG];exact same_upd np _
 rw [← hG]
 clear hG hh
 obtain⟨M,hM⟩:∃M:(Int×Int×Int->Prop)->L2.St->Hp->Prop,∀C σ H',M C σ H'↔∃(q:Addr) (l:Int×Int×Int),σ=[some (V.int a),some (V.int b),some (V.int 3),some (V.ref p),some (V.ref q)]∧H' q=some (T3 l)∧(-3<=l.1∧l.1<=3∧-3<=l.2.1∧l.2.1<=3∧-9<=l.2.2∧l.2.2<=9)∧C l∧Same G H':=⟨_,fun _ _ _=>Iff.rfl⟩
 refine mid_of (M fun _=>True) ?_ ?_
 ·k_units
  refine⟨(d _ (by decide) (by decide)).1,by decide,ite2 (fun z=>?_) (fun z=>?_)⟩
  ·refine⟨_,SqT.of gp,_,rfl,_,rfl,by omega,(d _ (by decide) (by decide)).2,by decide,(d _ (by decide) (by decide)).2,_,SqT.of gp,_,rfl,_,rfl,by omega,by decide,fun q nq=>?_⟩
   have e1:=Int.emod_nonneg b (show h.1+1≠0 by omega)
   have e2:=Int.emod_lt_of_pos b (show 0 < h.1+1 by omega)
   have e3:=Int.emod_nonneg (b / 12) (show h.2.2+1≠0 by omega)
   have e4:=Int.emod_lt_of_pos (b / 12) (show 0 < h.2.2+1 by omega)
   exact (hM _ _ _).mpr ⟨q,(b % (h.1+1),b / 4 % 3 - 1,b / 12 % (h.2.2+1)),rfl,upd_same,⟨by dsimp only;omega,by dsimp only;omega,by dsimp only;omega,by dsimp only;omega,by dsimp only;omega,by dsimp only;omega⟩,trivial,same_upd nq _⟩
  ·refine⟨.inl ⟨by decide,by decide⟩,by decide,(d _ (by decide) (by decide)).2,.inl ⟨by decide,by decide⟩,by decide,(d _ (by decide) (by decide)).2,by decide,by decide,fun q nq=>?_⟩
   exact (hM _ _ _).mpr ⟨q,(b % (2 * 3+1) - 3,b / 7 % (2 * 3+1) - 3,b / 49 % 19 - 9),rfl,upd_same,⟨by dsimp only;omega,by dsimp only;omega,by dsimp only;omega,by dsimp only;omega,by dsimp only;omega,by dsimp only;omega⟩,trivial,same_upd nq _⟩
 intro σ H1 hm
 obtain⟨q,l,rfl,eq,lb,_,s1⟩:=(hM _ _ _).mp hm
 refine mid_of (M fun l=>¬(l.1=0∧l.2.1 < 0)) ?_ ?_
 ·k_units
  refine⟨_,SqT.of eq,_,rfl,?_⟩
  k_units
  refine ite2 (fun z=>⟨_,SqT.of eq,_,rfl,?_⟩) (fun z=>(hM _ _ _).mpr ⟨q,l,rfl,eq,lb,fun y=>z y.1,s1⟩)
  k_units
  refine ite2 (fun z2=>?_) (fun z2=>(hM _ _ _).mpr ⟨q,l,rfl,eq,lb,fun y=>z2 y.2,s1⟩)
  exact⟨_,SqT.of eq,_,rfl,_,rfl,_,SqT.of eq,_,rfl,by decide,fun q2 nq2=>(hM _ _ _).mpr ⟨q2,(0,-l.2.1,l.2.2),rfl,upd_same,⟨by dsimp only;omega,by dsimp only;omega,by dsimp only;omega,by dsimp only;omega,by dsimp only;omega,by dsimp only;omega⟩,by dsimp only;omega,s1.trans (same_upd nq2 _)⟩⟩
 clear hm lb eq s1
 intro σ H1 hm
 obtain⟨q,l,rfl,eq,lb,c1,s1⟩:=(hM _ _ _).mp hm
 refine mid_of (M fun l=>¬(l.1=0∧l.2.1 < 0)∧¬(h.1 - l.1=0∧h.2.1 - l.2.1 < 0)) ?_ ?_
 ·k_units
  refine⟨_,SqT.of eq,_,rfl,_,SqT.of (s1 _ _ gp),_,rfl,?_⟩
  k_units
  refine ite2 (fun z=>⟨_,SqT.of eq,_,rfl,_,SqT.of (s1 _ _ gp),_,rfl,_,rfl,_,rfl,ite2 (fun z2=>?_) (fun z2=>(hM _ _ _).mpr ⟨q,l,rfl,eq,lb,⟨c1,fun y=>z2 (by omega)⟩,s1⟩)⟩) (fun z=>(hM _ _ _).mpr ⟨q,l,rfl,eq,lb,⟨c1,fun y=>z (by omega)⟩,s1⟩)
  exact⟨_,SqT.of eq,_,rfl,_,SqT.of (s1 _ _ gp),_,rfl,_,SqT.of eq,_,rfl,by decide,fun q2 nq2=>(hM _ _ _).mpr ⟨q2,(l.1,h.2.1,l.2.2),rfl,upd_same,⟨by dsimp only;omega,by dsimp only;omega,by dsimp only;omega,by dsimp only;omega,by dsimp only;omega,by dsimp only;omega⟩,by dsimp only;omega,s1.trans (same_upd nq2 _)⟩⟩
 clear hm lb eq s1
 intro σ H1 hm
 obtain⟨q,l,rfl,eq,lb,⟨c1,c2⟩,s1⟩:=(hM _ _ _).mp hm
 k_units
 exact⟨by decide,fun r nr=>k h l ⟨hb',lb,c1,c2⟩ r _ ((s0.trans s1).trans (same_upd nr _)) ⟨p,q,upd_same,same_upd nr _ _ _ (s1 _ _ gp),same_upd nr _ _ _ eq⟩⟩
def spRat:Sp:=fun vs H Q _=>∃a b:Int,vs=[.int a,.int b]∧∀f:Int×Int,Frc f->f.1≠0->Bd 70 f.1->Bd 20 f.2->∀(r:Addr) (H':Hp),Same H H'->H' r=some (T2 f)->Q (.ref r) H'
theorem ok__law_ratio {P:Program} {w:World} {K:W.Frag} {mg:Str->Option Value} {base:Heap} (T:Tx K mg):FnOk P w K mg base CX0 2 T.a__law_ratio T.fd__law_ratio ["_law_one","_law_other"] spRat:=by
 refine T.F__law_ratio.ok sc__law_ratio (fun vs H Q E h=>?_) (fun cdv A outer s H vs Q E hr h=>?_)
 ·obtain⟨a,b,rfl,_⟩:=h
  rfl
 obtain⟨a,b,rfl,k⟩:=h
 refine⟨_,((pss_cons (ps_set (i:=2) sc__law_ratio.nd rfl (Or.inl rfl) (pe_call (FnOk.mono (ok__law_number T) (by decide)) hr rfl T.m__law_number T.F__law_number.kp T.b__law_number .nil pass0 (pa_cons (pv 0) (pa_cons (pe_op op_pow pe_int pe_int) pa_nil))))
  (pss_mid (ps_if (pt_cmpR op_eq (pv 2) pe_int (nomark _)) (pss_one (ps_set (i:=2) sc__law_ratio.nd rfl (Or.inl rfl) pe_int)) pss_nil)
  (pss_cons (ps_set (i:=3) sc__law_ratio.nd rfl (Or.inl rfl) (pe_call (FnOk.mono (ok__law_mixed T) (by decide)) hr rfl T.m__law_mixed T.F__law_mixed.kp T.b__law_mixed .nil pass0 (pa_cons (pv 1) (pa_cons pe_int pa_nil))))
  (pss_cons (ps_set (i:=4) sc__law_ratio.nd rfl (Or.inl rfl) (pe_ix ix_list (pe_lst (pa_cons pe_int (pa_cons (pe_op op_add pe_int (pe_op op_mod (pe_op op_fdiv (pv 3) pe_int) pe_int)) (pa_cons (pe_op op_add pe_int (pe_op op_mod (pe_op op_fdiv (pv 3) pe_int) (pe_op op_pow pe_int pe_int))) pa_nil)))) (pe_op op_mod (pv 3) pe_int) (fun _ _=>rfl)))
  (pss_cons (ps_set (i:=5) sc__law_ratio.nd rfl (Or.inl rfl) (pe_call (FnOk.mono (ok__law_divisor T) (by decide)) hr rfl T.m__law_divisor T.F__law_divisor.kp T.b__law_divisor .nil pass0 (pa_cons (pv 2) (pa_cons (pv 4) pa_nil))))
  (pss_one (ps_ret (pe_tup (pa_cons (pe_op op_fdivB (pv 2) (pv 5)) (pa_cons (pe_op op_fdivB (pv 4) (pv 5)) pa_nil))))))))))),?_⟩
 dsimp only [a_seq]
 k_typeOf
 refine⟨⟨by decide,by decide,by decide⟩,a,_,rfl,.inr (.inl rfl),fun t ht=>?_⟩
 obtain⟨M,hM⟩:∃M:L2.St->Hp->Prop,∀σ H',M σ H'↔∃t:Int,σ=[some (V.int a),some (V.int b),some (V.int t),none,none,none]∧t≠0∧Bd 70 t∧H'=H:=⟨_,fun _ _=>Iff.rfl⟩
 have bt:Bd 70 t:=Nat.lt_of_lt_of_le ht (by decide)
 refine mid_of M ?_ ?_
 ·k_units
  exact ite2 (fun z=>(hM _ _).mpr ⟨1,rfl,by decide,Bd.one (by decide),rfl⟩) (fun z=>(hM _ _).mpr ⟨t,rfl,z,bt,rfl⟩)
 clear bt ht
 intro σ H1 hm
 obtain⟨t',rfl,t0,bt,rfl⟩:=(hM _ _).mp hm
 dsimp only [a_seq]
 k_typeOf
 refine⟨b,3,rfl,by decide,fun m hm0=>?_⟩
 dsimp only [a_seq]
 k_typeOf
 refine⟨⟨by decide,by decide⟩,by decide,⟨by decide,by decide⟩,⟨by decide,by decide,by decide⟩,by decide,by decide,fun p np=>⟨by decide,_,SqL.of upd_same,?_⟩⟩
 have e6:(10:Int) ^ Int.toNat 6=1000000:=rfl
 obtain⟨bo,hbo,b1,b2⟩:∃bo:Int,atI [V.int 1,V.int (1+m / 3 % 9),V.int (1+m / 3 % (10:Int) ^ Int.toNat 6)] (m % 3)=some (V.int bo)∧1<=bo∧bo<=1000000:=by
  rw [e6]
  have:m % 3=0∨m % 3=1∨m % 3=2:=by omega
  rcases this with z | z | z <;> rw [z]
  ·exact⟨_,rfl,by omega,by omega⟩
  ·exact⟨_,rfl,by omega,by omega⟩
  ·exact⟨_,rfl,by omega,by omega⟩
 refine⟨_,hbo,?_⟩
 clear hbo
 have u1:=same_upd np (.lst [V.int 1,V.int (1+m / 3 % 9),V.int (1+m / 3 % (10:Int) ^ Int.toNat 6)])
 generalize L2.upd H1 p (.lst [V.int 1,V.int (1+m / 3 % 9),V.int (1+m / 3 % (10:Int) ^ Int.toNat 6)])=G at u1
 dsimp only [a_seq]
 k_typeOf
 refine⟨t',bo,rfl,?_⟩
 k_units
 obtain⟨g1,g2,g3,g4,g5,g6⟩:=gcd_split (t:=t') (b:=bo) (s:=((Nat.gcd t'.natAbs bo.natAbs:Nat):Int)) (by omega) (by rw [if_neg (by omega)])
 have small:(((Nat.gcd t'.natAbs bo.natAbs:Nat):Int)).natAbs < 2 ^ 9000:=by
  rw [Int.natAbs_natCast]
  exact Nat.lt_of_le_of_lt (Nat.gcd_le_right _ (by omega)) (Nat.lt_of_le_of_lt (show bo.natAbs<=1000000 by omega) (Nat.lt_of_lt_of_le (show 1000000 < 2 ^ 20 by decide) (Nat.pow_le_pow_right (by decide) (by decide))))
 have f0:t'.fdiv ((Nat.gcd t'.natAbs bo.natAbs:Nat):Int)≠0:=fun z=>by rw [z] at g3;omega
 refine⟨g1,small,g1,small,by decide,fun r nr=>k (_,_) ⟨g5,g6⟩ f0 (bd_le (fdiv_le g1 g3) bt) (bd_le (fdiv_le g1 g4) (Bd.of_lt (m:=1000001) (by omega) (by decide))) r _ (u1.trans (same_upd nr _)) upd_same⟩
theorem ite3 {a b X Y:Prop} [Decidable a] [Decidable b] (h1:a->b->X) (h2:Y):if a then (if b then X else Y) else Y:=by
 by_cases ha:a
 ·rw [if_pos ha]
  by_cases hb:b
  ·rw [if_pos hb];exact h1 ha hb
  ·rw [if_neg hb];exact h2
 ·rw [if_neg ha];exact h2
theorem PtAt.head {H:Hp} {r:Addr} {p:Prt} (h:PtAt H r p):∃(s:Str) (xs:List V),H r=some (.tup (.str s :: xs)):=by
 match p,h with
 | .cho f l,⟨a,b,h1,_⟩=>exact⟨_,_,h1⟩
 | .wei f,⟨a,h1,_⟩=>exact⟨_,_,h1⟩
 | .pow f,⟨a,h1,_⟩=>exact⟨_,_,h1⟩
 | .gro f,⟨a,h1,_⟩=>exact⟨_,_,h1⟩
def spPrt (K:W.Frag):Sp:=fun vs H Q _=>∃(A:Addr) (x y z m:Int),vs=[.ref A,.int m]∧H A=some (.lst [.int x,.int y,.int z])∧(m=3∨m=0)∧∀p,PrtOk p->mkPt H Q p
theorem ok__law_part {P:Program} {w:World} {K:W.Frag} {mg:Str->Option Value} {base:Heap} (T:Tx K mg):FnOk P w K mg base CX0 3 T.a__law_part T.fd__law_part ["_law_cells","_law_most"] (spPrt K):=by
 refine T.F__law_part.ok sc__law_part (fun vs H Q E h=>?_) (fun cdv A outer s H vs Q E hr h=>?_)
 ·obtain⟨A,x,y,z,m,rfl,_⟩:=h
  rfl
 obtain⟨A,x,y,z,m,rfl,hA,hm,k⟩:=h
 refine⟨_,((pss_cons (ps_set (i:=2) sc__law_part.nd rfl (Or.inl rfl) (pe_op op_mod (pe_call (FnOk.mono (ok__law_mixed T) (by decide)) hr rfl T.m__law_mixed T.F__law_mixed.kp T.b__law_mixed .nil pass0 (pa_cons (pe_ix ix_list (pv 0) pe_int (fun _ _=>rfl)) (pa_cons pe_int pa_nil))) pe_int))
  (pss_cons (ps_if (PW.pt (pw_and (pt_cmpR op_lt (pv 2) pe_int (nomark _)) (pw_and1 (pt_cmpR op_gt (pv 1) pe_int (nomark _))))) (pss_one (ps_ret (pe_call (FnOk.mono (ok__law_forms T) (by decide)) hr rfl T.m__law_forms T.F__law_forms.kp T.b__law_forms .nil pass0 (pa_cons (pe_call (FnOk.mono (ok__law_mixed T) (by decide)) hr rfl T.m__law_mixed T.F__law_mixed.kp T.b__law_mixed .nil pass0 (pa_cons (pe_ix ix_list (pv 0) pe_int (fun _ _=>rfl)) (pa_cons pe_int pa_nil))) (pa_cons (pe_call (FnOk.mono (ok__law_mixed T) (by decide)) hr rfl T.m__law_mixed T.F__law_mixed.kp T.b__law_mixed .nil pass0 (pa_cons (pe_ix ix_list (pv 0) pe_int (fun _ _=>rfl)) (pa_cons pe_int pa_nil))) (pa_cons (pv 1) pa_nil)))))) pss_nil)
  (pss_cons (ps_if (pt_cmpR op_eq (pv 2) pe_int (nomark _)) (pss_one (ps_ret (pe_tup (pa_cons pe_str (pa_cons (pe_call (FnOk.mono (ok__law_ratio T) (by decide)) hr rfl T.m__law_ratio T.F__law_ratio.kp T.b__law_ratio .nil pass0 (pa_cons (pe_ix ix_list (pv 0) pe_int (fun _ _=>rfl)) (pa_cons (pe_ix ix_list (pv 0) pe_int (fun _ _=>rfl)) pa_nil))) pa_nil))))) pss_nil)
  (pss_cons (ps_if (pt_cmpR op_eq (pv 2) pe_int (nomark _)) (pss_one (ps_ret (pe_tup (pa_cons pe_str (pa_cons (pe_call (FnOk.mono (ok__law_ratio T) (by decide)) hr rfl T.m__law_ratio T.F__law_ratio.kp T.b__law_ratio .nil pass0 (pa_cons (pe_ix ix_list (pv 0) pe_int (fun _ _=>rfl)) (pa_cons (pe_ix ix_list (pv 0) pe_int (fun _ _=>rfl)) pa_nil))) pa_nil))))) pss_nil)
  (pss_one (ps_ret (pe_tup (pa_cons pe_str (pa_cons (pe_callTy call_tuple_of rfl T.z_tuple bt_tuple (pa_cons (pe_lcomp rfl (blkok rfl sub_nil fv_nil) (pi_list (pv 0)) (fun _ _ _ _=>(pe_call (FnOk.mono (ok__law_number T) (by decide)) hr rfl T.m__law_number T.F__law_number.kp T.b__law_number .nil pass0 (pa_cons (pv 0) (pa_cons (pe_op op_pow pe_int pe_int) pa_nil))))) pa_nil)) pa_nil)))))))))),?_⟩
 dsimp only [a_seq]
 k_typeOf
 refine⟨_,SqL.of hA,_,rfl,x,0,rfl,by decide,fun wy w0=>⟨wy,rfl,by decide,?_⟩⟩
 dsimp only [a_seq]
 k_typeOf
 refine ite3 (fun _ m0=>⟨_,SqL.of hA,_,rfl,y,1,rfl,by decide,fun n1 p1=>⟨_,SqL.of hA,_,rfl,z,2,rfl,by decide,fun n2 p2=>⟨n1,n2,?_,p1,p2,fun h l c=>k (.cho h l) c⟩⟩⟩) ?_
 ·rw [show m=3 by omega]
 dsimp only [a_seq]
 k_typeOf
 refine ite2 (fun _=>⟨_,SqL.of hA,_,rfl,_,SqL.of hA,_,rfl,y,z,rfl,fun f h1 h2 h3 h4 a H1 s1 ea=>⟨by decide,fun r nr=>?_⟩⟩) (fun _=>?_)
 ·exact k (.pow f) ⟨h1,h2,nb_bd h3 (by decide),nb_bd h4 (by decide)⟩ r _ (s1.trans (same_upd nr _)) ⟨a,upd_same,same_upd nr _ _ _ ea⟩
 dsimp only [a_seq]
 k_typeOf
 refine ite2 (fun _=>⟨_,SqL.of hA,_,rfl,_,SqL.of hA,_,rfl,y,z,rfl,fun f h1 h2 h3 h4 a H1 s1 ea=>⟨by decide,fun r nr=>?_⟩⟩) (fun _=>?_)
 ·exact k (.gro f) ⟨h1,h2,nb_bd h3 (by decide),nb_bd h4 (by decide)⟩ r _ (s1.trans (same_upd nr _)) ⟨a,upd_same,same_upd nr _ _ _ ea⟩
 k_units
 refine⟨⟨_,SqL.of hA⟩,fun D nD=>?_⟩
 obtain⟨Pc,hPc⟩:∃Pc:Nat->Hp->Prop,∀j Hx,Pc j Hx↔∃us:List Int,Hx D=some (.lst (us.map V.int))∧us.length=j∧(∀u∈us,NB u)∧Same H Hx:=⟨_,fun _ _=>Iff.rfl⟩
 refine cl_list (xs:=[V.int x,V.int y,V.int z]) Pc ((hPc _ _).mpr ⟨[],upd_same,rfl,fun u hu=>by simp at hu,same_upd nD _⟩) (fun i Hx _ y=>by obtain⟨_,_,_,_,y⟩:=(hPc i Hx).mp y;exact y.seq (SqL.of hA)) ?_ ?_
 ·intro j v Hx hv hc
  obtain⟨us,k1,k2,k3,k4⟩:=(hPc _ _).mp hc
  obtain⟨c,rfl,hj⟩:∃c:Int,v=V.int c∧j < 3:=by
   match j,hv with
   | 0,hv=>exact⟨x,(Option.some.inj hv).symm,by decide⟩
   | 1,hv=>exact⟨y,(Option.some.inj hv).symm,by decide⟩
   | 2,hv=>exact⟨z,(Option.some.inj hv).symm,by decide⟩
   | j+3,hv=>simp at hv
  (iterate 3 (k_units;(try simp only [bst,Option.getD_some]));k_units)
  refine⟨⟨by decide,by decide,by decide⟩,c,_,rfl,.inl rfl,fun u hu=>⟨_,k1,by rw [List.length_map];exact small1000 (by omega),(hPc _ _).mpr ⟨us++[u],by rw [upd_same];simp,by simp [k2],fun v hv=>?_,k4.more nD⟩⟩⟩
  rcases List.mem_append.mp hv with hv | hv
  ·exact k3 v hv
  ·rw [List.mem_singleton.mp hv]
   exact Nat.lt_of_lt_of_le hu (by decide)
 intro Hx hc
 obtain⟨us,k1,k2,k3,k4⟩:=(hPc _ _).mp hc
 match us,k2 with
 | [a,b,c],_=>
  refine⟨D,rfl,_,.inl ⟨SqL.of k1,fun q nq=>⟨by decide,fun r nr=>?_⟩⟩⟩
  have u1:=same_upd nq (.tup ([a,b,c].map V.int))
  exact k (.wei (a,b,c)) ⟨k3 a (by simp),k3 b (by simp),k3 c (by simp)⟩ r _ ((k4.trans u1).trans (same_upd nr _)) ⟨q,upd_same,same_upd nr _ _ _ upd_same⟩
def spPts (K:W.Frag):Sp:=fun vs H Q _=>∃(A M:Addr) (ns:List Int),vs=[.ref A,.ref M]∧SqL K H A (ns.map V.int)∧H M=some (.lst [.int 3,.int 3,.int 3,.int 3,.int 3,.int 3])∧
 ∀(L:Addr) (rs:List Addr) (ps:List Prt) (H':Hp),Same H H'->H L=none->H' L=some (.lst (rs.map V.ref))->Pts H' rs ps->(∀p∈ps,PrtOk p)->1<=ps.length->ps.length<=6->Q (.ref L) H'
theorem ok__law_parts {P:Program} {w:World} {K:W.Frag} {mg:Str->Option Value} {base:Heap} (T:Tx K mg):FnOk P w K mg base CX0 4 T.a__law_parts T.fd__law_parts ["_law_script","_law_mosts"] (spPts K):=by
 refine T.F__law_parts.ok sc__law_parts (fun vs H Q E h=>?_) (fun cdv A outer s H vs Q E hr h=>?_)
 ·obtain⟨A,M,ns,rfl,_⟩:=h
  rfl
 obtain⟨A,M,ns,rfl,hA,hM,k⟩:=h
 refine⟨_,((pss_cons (ps_set (i:=2) sc__law_parts.nd rfl (Or.inl rfl) (pe_lst pa_nil))
  (pss_cons (ps_for PassesOwn.never rfl (pi_range1 rfl T.z_range (pa_cons (pe_op op_add pe_int (pe_op op_mod (pe_call (FnOk.mono (ok__law_cell_at T) (by decide)) hr rfl T.m__law_cell_at T.F__law_cell_at.kp T.b__law_cell_at .nil pass0 (pa_cons (pv 0) (pa_cons pe_int pa_nil))) pe_int)) pa_nil)) (pg_name (i:=3) sc__law_parts.nd rfl (Or.inr rfl)) (pss_cons (ps_set (i:=4) sc__law_parts.nd rfl (Or.inl rfl) (pe_call (FnOk.mono (ok__law_part T) (by decide)) hr rfl T.m__law_part T.F__law_part.kp T.b__law_part .nil pass0 (pa_cons (pe_lcomp rfl (blkok rfl (sub_cons rfl (sub_cons rfl sub_nil)) (fv_cons 0 "_law_script" (by decide) rfl (Or.inl rfl) (Or.inl rfl) ⟨_,rfl⟩ (fv_cons 3 "_law_k" (by decide) rfl (Or.inl rfl) (Or.inl rfl) ⟨_,rfl⟩ fv_nil))) (pi_range1 rfl T.z_range (pa_cons pe_int pa_nil)) (fun _ _ _ _=>(pe_call (FnOk.mono (ok__law_cell_at T) (by decide)) hr rfl T.m__law_cell_at T.F__law_cell_at.kp T.b__law_cell_at .nil pass0 (pa_cons (pv 1) (pa_cons (pe_op op_add (pe_op op_add pe_int (pe_op op_mul pe_int (pv 2))) (pv 0)) pa_nil))))) (pa_cons (pe_ix ix_list (pv 1) pe_int (fun _ _=>rfl)) pa_nil))))
  (pss_mid (ps_if (pt_cmpR op_eq (pe_ix ix_tup (pv 4) pe_int (fun _ _=>rfl)) pe_str (nomark _)) (pss_one (ps_set (i:=1) sc__law_parts.nd rfl (Or.inl rfl) (pe_op op_cat (pe_slice sl_list (pv 1) (po_some pe_int) po_none) (pe_lst (pa_cons pe_int pa_nil))))) pss_nil)
  (pss_one (ps_expr (pe_bm PySem.F.plainAttrs_list PySem.F.slot_list_append PySem.F.type_list_append mt_append (pv 2) (pa_cons (pv 4) pa_nil)))))))
  (pss_one (ps_ret (pv 2)))))),?_⟩
 dsimp only [a_seq]
 k_typeOf
 refine⟨by decide,fun L nL=>?_⟩
 k_units
 have u0:=same_upd nL (.lst [])
 refine⟨A,ns,0,rfl,u0.seq hA,_,rfl,by decide,by omega,by omega,?_⟩
 have i0:=Int.emod_nonneg (cell ns 0) (show (6:Int)≠0 by decide)
 have i6:=Int.emod_lt_of_pos (cell ns 0) (show (0:Int) < 6 by decide)
 obtain⟨N,hN,N1,N6⟩:∃N,(1+cell ns 0 % 6).toNat=N∧1<=N∧N<=6:=⟨_,rfl,by omega,by omega⟩
 rw [hN]
 obtain⟨Pv,hPv⟩:∃Pv:Nat->L2.St->Hp->Prop,∀i σ H',Pv i σ H'↔∃(rs:List Addr) (ps:List Prt) (M':Addr) (ms:List Int) (r3 r4:Option V),σ=[some (V.ref A),some (V.ref M'),some (V.ref L),r3,r4]∧H' L=some (.lst (rs.map V.ref))∧Pts H' rs ps∧(∀p∈ps,PrtOk p)∧ps.length=i∧H' M'=some (.lst (ms.map V.int))∧ms.length=6∧(∀x∈ms,x=3∨x=0)∧Same H H'∧M'≠L:=⟨_,fun _ _ _=>Iff.rfl⟩
 have nML:M≠L:=fun z=>by rw [z,nL] at hM;cases hM
 refine lp_range Pv ((hPv _ _ _).mpr ⟨[],[],M,[3,3,3,3,3,3],none,none,rfl,upd_same,⟨rfl,fun i r p e=>by simp at e⟩,fun p hp=>by simp at hp,rfl,u0 _ _ hM,rfl,fun x hx=>by simp at hx;exact .inl hx,u0,nML⟩) ?_ ?_
 ·intro i σ H1 hi hp
  obtain⟨rs,ps,M',ms,r3,r4,rfl,eL,hP,hO,lp,eM,l6,h30,s1,nML'⟩:=(hPv _ _ _).mp hp
  dsimp only [a_seq]
  k_typeOf
  refine⟨by decide,by decide,fun D nD=>?_⟩
  obtain⟨Pc,hPc⟩:∃Pc:Nat->Hp->Prop,∀j Hx,Pc j Hx↔Hx D=some (.lst (((List.range j).map fun j=>cell ns (1+3 * i+j)).map V.int))∧Same H1 Hx:=⟨_,fun _ _=>Iff.rfl⟩
  refine cl_range Pc ((hPc _ _).mpr ⟨upd_same,same_upd nD _⟩) ?_ ?_
  ·intro j Hx hj hc
   obtain⟨k1,k2⟩:=(hPc _ _).mp hc
   (iterate 3 (k_units;(try simp only [bst,Option.getD_some]));k_units)
   have e:(1:Int)+3 * (0+(i:Int))+(0+(j:Int))=((1+3 * i+j:Nat):Int):=by omega
   have hj3:j < 3:=hj
   refine⟨.inl ⟨by decide,by decide⟩,A,ns,1+3 * i+j,by rw [e],(s1.trans k2).seq hA,_,k1,by rw [List.length_map,List.length_map,List.length_range];exact small1000 (by omega),(hPc _ _).mpr ⟨?_,k2.more nD⟩⟩
   rw [upd_same,List.range_succ,List.map_append,List.map_append];rfl
  intro Hx hc
  obtain⟨k1,k2⟩:=(hPc _ _).mp hc
  obtain⟨m0,m1,m2,m3,m4,m5,rfl⟩:∃m0 m1 m2 m3 m4 m5,ms=[m0,m1,m2,m3,m4,m5]:=by
   match ms,l6 with
   | [m0,m1,m2,m3,m4,m5],_=>exact⟨m0,m1,m2,m3,m4,m5,rfl⟩
  refine⟨_,SqL.of (k2 _ _ eM),_,(show atI ([m0,m1,m2,m3,m4,m5].map V.int) ((0:Nat):Int)=some (V.int m0) from atI_nat rfl),D,_,_,_,m0,rfl,k1,h30 m0 (by simp),fun p hp r H2 s2 hr2=>?_⟩
  have s12:=k2.trans s2
  obtain⟨M2,hM2⟩:∃M2:L2.St->Hp->Prop,∀σ H',M2 σ H'↔∃(M'':Addr) (ms:List Int),σ=[some (V.ref A),some (V.ref M''),some (V.ref L),some (V.int (0+(i:Int))),some (V.ref r)]∧H' M''=some (.lst (ms.map V.int))∧ms.length=6∧(∀x∈ms,x=3∨x=0)∧Same H2 H'∧M''≠L:=⟨_,fun _ _=>Iff.rfl⟩
  refine mid_of M2 ?_ ?_
  ·obtain⟨sh,xs,er⟩:=hr2.head
   k_units
   refine⟨_,SqT.of er,_,(show atI (V.str sh :: xs) ((0:Nat):Int)=some (V.str sh) from atI_nat rfl),?_⟩
   k_units
   refine ite2 (fun _=>?_) (fun _=>(hM2 _ _).mpr ⟨M',_,rfl,s12 _ _ eM,l6,h30,Same.refl _,nML'⟩)
   have ec:cutV ([m0,m1,m2,m3,m4,m5].map V.int) (some 1) none=[m1,m2,m3,m4,m5].map V.int:=rfl
   refine⟨_,SqL.of (s12 _ _ eM),fun p1 n1=>⟨by decide,fun p2 n2=>?_⟩⟩
   rw [ec] at n2 ⊢
   have v1:=same_upd n1 (.lst ([m1,m2,m3,m4,m5].map V.int))
   have v2:=same_upd n2 (.lst [V.int 0])
   refine⟨_,v2 _ _ upd_same,_,upd_same,by show 5+1<=sizeLine;decide,fun p3 n3=>?_⟩
   have v3:=same_upd n3 (.lst ([m1,m2,m3,m4,m5].map V.int++[V.int 0]))
   have eLx:=(v1.trans v2) _ _ (s12 _ _ eL)
   exact (hM2 _ _).mpr ⟨p3,[m1,m2,m3,m4,m5,0],rfl,upd_same,rfl,fun x hx=>by
    simp only [List.mem_cons,List.not_mem_nil,or_false] at hx
    rcases hx with rfl | rfl | rfl | rfl | rfl | rfl
    ·exact h30 _ (by simp)
    ·exact h30 _ (by simp)
    ·exact h30 _ (by simp)
    ·exact h30 _ (by simp)
    ·exact h30 _ (by simp)
    ·exact .inr rfl,(v1.trans v2).trans v3,fun z=>by rw [z,eLx] at n3;cases n3⟩
  intro σ H3 hm
  obtain⟨M'',ms2,rfl,eM2,l62,h302,s3,nML2⟩:=(hM2 _ _).mp hm
  k_units
  have eL3:=s3 _ _ (s12 _ _ eL)
  have kt:∀a xs,H1 a=some (.tup xs)->L2.upd H3 L (.lst (rs.map V.ref++[V.ref r])) a=some (.tup xs):=fun a xs e=>by
   rw [upd_ne (ne_of e eL (fun z=>nomatch z))];exact s3 _ _ (s12 _ _ e)
  refine⟨a_tyL (SqL.of eL3),_,eL3,by rw [List.length_map,hP.len];exact small1000 (by omega),(hPv _ _ _).mpr ⟨rs++[r],ps++[p],M'',ms2,_,_,rfl,by rw [upd_same,List.map_append];rfl,?_,fun p' hp'=>?_,by simp [lp],by rw [upd_ne nML2];exact eM2,l62,h302,((s1.trans s12).trans s3).more nL,nML2⟩⟩
  ·refine (hP.kt kt).snoc (hr2.kt fun a xs e=>?_)
   rw [upd_ne (ne_of (s3 _ _ e) eL3 (fun z=>nomatch z))];exact s3 _ _ e
  ·rcases List.mem_append.mp hp' with z | z
   ·exact hO p' z
   ·rw [List.mem_singleton.mp z];exact hp
 ·intro σ H1 hp
  obtain⟨rs,ps,M',ms,r3,r4,rfl,eL,hP,hO,lp,eM,l6,h30,s1,nML'⟩:=(hPv _ _ _).mp hp
  k_units
  exact k L rs ps H1 s1 nL eL hP hO (by omega) (by omega)
def spChg (K:W.Frag):Sp:=fun vs H Q _=>∃(A:Addr) (t:List Nat) (ns:List Int),vs=[.str (TX.S t),.ref A]∧SqL K H A (ns.map V.int)∧t.length<=2900∧∀(u:List Nat) (H':Hp),u.length<=t.length+3->Same H H'->Q (.str (TX.S u)) H'
theorem ok__law_changed {P:Program} {w:World} {K:W.Frag} {mg:Str->Option Value} {base:Heap} (T:Tx K mg):FnOk P w K mg base CX0 3 T.a__law_changed T.fd__law_changed ["_law_line","_law_script"] (spChg K):=by
 refine T.F__law_changed.ok sc__law_changed (fun vs H Q E h=>?_) (fun cdv A outer s H vs Q E hr h=>?_)
 ·obtain⟨A,t,ns,rfl,_⟩:=h
  rfl
 obtain⟨A,t,ns,rfl,hA,ll,k⟩:=h
 refine⟨_,((pss_cons (ps_set (i:=2) sc__law_changed.nd rfl (Or.inl rfl) pe_str)
  (pss_cons (ps_for PassesOwn.never rfl (pi_range1 rfl T.z_range (pa_cons (pe_op op_mod (pe_call (FnOk.mono (ok__law_mixed T) (by decide)) hr rfl T.m__law_mixed T.F__law_mixed.kp T.b__law_mixed .nil pass0 (pa_cons (pe_call (FnOk.mono (ok__law_cell_at T) (by decide)) hr rfl T.m__law_cell_at T.F__law_cell_at.kp T.b__law_cell_at .nil pass0 (pa_cons (pv 1) (pa_cons pe_int pa_nil))) (pa_cons pe_int pa_nil))) pe_int) pa_nil)) (pg_name (i:=3) sc__law_changed.nd rfl (Or.inl rfl)) (pss_cons (ps_set (i:=4) sc__law_changed.nd rfl (Or.inl rfl) (pe_call (FnOk.mono (ok__law_mixed T) (by decide)) hr rfl T.m__law_mixed T.F__law_mixed.kp T.b__law_mixed .nil pass0 (pa_cons (pe_call (FnOk.mono (ok__law_cell_at T) (by decide)) hr rfl T.m__law_cell_at T.F__law_cell_at.kp T.b__law_cell_at .nil pass0 (pa_cons (pv 1) (pa_cons (pe_op op_add pe_int (pv 3)) pa_nil))) (pa_cons pe_int pa_nil))))
  (pss_cons (ps_set (i:=5) sc__law_changed.nd rfl (Or.inl rfl) (pe_op op_mod (pe_op op_fdiv (pv 4) pe_int) (pe_op op_add (pe_callB call_len_str rfl T.z_len bt_len (pa_cons (pv 0) pa_nil)) pe_int)))
  (pss_cons (ps_set (i:=6) sc__law_changed.nd rfl (Or.inl rfl) (pe_ix ix_str (pv 2) (pe_op op_mod (pe_call (FnOk.mono (ok__law_mixed T) (by decide)) hr rfl T.m__law_mixed T.F__law_mixed.kp T.b__law_mixed .nil pass0 (pa_cons (pe_call (FnOk.mono (ok__law_cell_at T) (by decide)) hr rfl T.m__law_cell_at T.F__law_cell_at.kp T.b__law_cell_at .nil pass0 (pa_cons (pv 1) (pa_cons (pe_op op_add pe_int (pv 3)) pa_nil))) (pa_cons pe_int pa_nil))) pe_int) (fun _ _=>rfl)))
  (pss_one (ps_if (pt_cmpR op_eq (pe_op op_mod (pv 4) pe_int) pe_int (nomark _)) (pss_one (ps_set (i:=0) sc__law_changed.nd rfl (Or.inl rfl) (pe_op op_catS (pe_op op_catS (pe_slice sl_str (pv 0) po_none (po_some (pv 5))) (pv 6)) (pe_slice sl_str (pv 0) (po_some (pv 5)) po_none)))) (pss_one (ps_if (pt_cmpR op_eq (pe_op op_mod (pv 4) pe_int) pe_int (nomark _)) (pss_one (ps_set (i:=0) sc__law_changed.nd rfl (Or.inl rfl) (pe_op op_catS (pe_slice sl_str (pv 0) po_none (po_some (pv 5))) (pe_slice sl_str (pv 0) (po_some (pe_op op_add (pv 5) pe_int)) po_none)))) (pss_one (ps_if (pt_cmpR op_eq (pe_op op_mod (pv 4) pe_int) pe_int (nomark _)) (pss_one (ps_set (i:=0) sc__law_changed.nd rfl (Or.inl rfl) (pe_op op_catS (pe_op op_catS (pe_slice sl_str (pv 0) po_none (po_some (pv 5))) (pv 6)) (pe_slice sl_str (pv 0) (po_some (pe_op op_add (pv 5) pe_int)) po_none)))) (pss_cons (ps_set (i:=7) sc__law_changed.nd rfl (Or.inl rfl) (pe_op op_catS (pe_slice sl_str (pv 0) (po_some (pe_op op_add (pv 5) pe_int)) (po_some (pe_op op_add (pv 5) pe_int))) (pe_slice sl_str (pv 0) (po_some (pv 5)) (po_some (pe_op op_add (pv 5) pe_int)))))
  (pss_one (ps_set (i:=0) sc__law_changed.nd rfl (Or.inl rfl) (pe_op op_catS (pe_op op_catS (pe_slice sl_str (pv 0) po_none (po_some (pv 5))) (pv 7)) (pe_slice sl_str (pv 0) (po_some (pe_op op_add (pv 5) pe_int)) po_none)))))))))))))))
  (pss_one (ps_ret (pv 0)))))),?_⟩
 obtain⟨sg,hsg⟩:∃sg:Str,sg=Str.ofString "0123456789+-/nkC(),[]^* xN" := ⟨_,rfl⟩
 have lsg:sg.length=26:=by rw [hsg];rfl
 have lsl:sg.cps.toList.length=26:=by rw [← lsg];simp [Str.length]
 dsimp only [a_seq]
 k_typeOf
 rw [← hsg]
 clear hsg
 dsimp only [a_seq]
 k_typeOf
 refine⟨A,ns,19,rfl,hA,_,8,rfl,by decide,fun n hn=>⟨_,rfl,by decide,by omega,by omega,?_⟩⟩
 obtain⟨Pv,hPv⟩:∃Pv:Nat->L2.St->Hp->Prop,∀i σ Hx,Pv i σ Hx↔∃(u:List Nat) (r3 r4 r5 r6 r7:Option V),σ=[some (.str (TX.S u)),some (.ref A),some (.str sg),r3,r4,r5,r6,r7]∧Hx=H∧u.length<=t.length+i:=⟨_,fun _ _ _=>Iff.rfl⟩
 refine lp_range Pv ((hPv _ _ _).mpr ⟨t,_,_,_,_,_,rfl,rfl,Nat.le_refl _⟩) ?_ ?_
 ·intro i σ Hx hi hp
  obtain⟨u,r3,r4,r5,r6,r7,rfl,rfl,lu⟩:=(hPv _ _ _).mp hp
  have i3:i<=3:=by omega
  clear hp
  dsimp only [a_seq]
  k_typeOf
  refine⟨A,ns,20+i,by congr 3;omega,hA,_,9,rfl,by decide,fun m hm=>?_⟩
  have lS:(TX.S u).length<=100000:=by rw [TX.S_len];omega
  have lS':(TX.S u).length<=sizeLine:=by rw [TX.S_len];exact sl_of (by omega)
  dsimp only [a_seq]
  k_typeOf
  obtain⟨a,ha,al⟩:∃a:Nat,m / 4 % (((TX.S u).length:Int)+1)=(a:Int)∧a<=u.length:=by
   rw [TX.S_len]
   have h1:=Int.emod_nonneg (m / 4) (show ((u.length:Int)+1)≠0 by omega)
   have h2:=Int.emod_lt_of_pos (m / 4) (show 0 < ((u.length:Int)+1) by omega)
   exact⟨(m / 4 % ((u.length:Int)+1)).toNat,by omega,by omega⟩
  refine⟨⟨by decide,by decide⟩,lS',by omega,?_⟩
  rw [ha]
  dsimp only [a_seq]
  k_typeOf
  refine⟨A,ns,23+i,by congr 3;omega,hA,_,10,rfl,by decide,fun m2 hm2=>⟨_,rfl,by decide,by rw [lsg];exact sl_of (by decide),?_⟩⟩
  obtain⟨b,hb,bl⟩:∃b:Nat,m2 % 26=(b:Int)∧b < 26:=⟨(m2 % 26).toNat,by omega,by omega⟩
  refine⟨_,by rw [hb];exact atI_nat (List.getElem?_eq_getElem (by omega)),?_⟩
  generalize sg.cps.toList[b]=c
  have hc:({ cps:=#[c] }:Str)=TX.S [c]:=rfl
  have c1:(a:Int)+1=((a+1:Nat):Int):=rfl
  have c2:(a:Int)+2=((a+2:Nat):Int):=rfl
  have fin:∀(v:List Nat) (r6 r7:Option V),v.length<=u.length+1->Pv (i+1) [some (.str (TX.S v)),some (.ref A),some (.str sg),some (.int (0+(i:Int))),some (.int m),some (.int (a:Int)),r6,r7] Hx:=fun v r6 r7 lv=>(hPv _ _ _).mpr ⟨v,_,_,_,_,_,rfl,rfl,by omega⟩
  k_units
  simp only [hc,c1,c2,sl_to,sl_from,sl_btw,TX.S_app,TX.S_len]
  have lu5:u.length<=100000:=by omega
  refine⟨by decide,ite2 (fun _=>⟨lu5,?_,lu5,?_,fin _ _ _ ?_⟩) (fun _=>⟨by decide,ite2 (fun _=>⟨lu5,lu5,?_,fin _ _ _ ?_⟩) (fun _=>⟨by decide,ite2 (fun _=>⟨lu5,?_,lu5,?_,fin _ _ _ ?_⟩) (fun _=>⟨lu5,lu5,?_,lu5,?_,lu5,?_,fin _ _ _ ?_⟩)⟩)⟩)⟩ <;>
   first
    | exact sl_of (by simp only [List.length_append,List.length_take,List.length_drop,List.length_cons,List.length_nil];omega)
    |(simp only [List.length_append,List.length_take,List.length_drop,List.length_cons,List.length_nil];omega)
 intro σ Hx hp
 obtain⟨u,r3,r4,r5,r6,r7,rfl,rfl,lu⟩:=(hPv _ _ _).mp hp
 k_units
 exact k u _ (by omega) (Same.refl _)
def okS:V->Bool
 | .str x=>decide (x.length<=20)
 | _=>false
theorem okS_of {v:V} (h:okS v=true):∃u:List Nat,v=.str (TX.S u)∧u.length<=20:=by
 match v,h with
 | .str x,h=>
  refine⟨x.cps.toList,by rw [TX.S_of],?_⟩
  have:=of_decide_eq_true h
  simpa [Str.length] using this
def spOdd:Sp:=fun vs H Q _=>∃n:Int,vs=[.int n]∧∀(u:List Nat) (H':Hp),u.length<=20->Same H H'->Q (.str (TX.S u)) H'
theorem ok__law_odd {P:Program} {w:World} {K:W.Frag} {mg:Str->Option Value} {base:Heap} (T:Tx K mg):FnOk P w K mg base CX0 1 T.a__law_odd T.fd__law_odd ["_law_cell"] spOdd:=by
 refine T.F__law_odd.ok sc__law_odd (fun vs H Q E h=>?_) (fun cdv A outer s H vs Q E hr h=>?_)
 ·obtain⟨n,rfl,_⟩:=h
  rfl
 obtain⟨n,rfl,k⟩:=h
 refine⟨_,((pss_cons (ps_set (i:=1) sc__law_odd.nd rfl (Or.inl rfl) (pe_lst (pa_cons pe_str (pa_cons pe_str (pa_cons pe_str (pa_cons pe_str (pa_cons pe_str (pa_cons pe_str pa_nil))))))))
  (pss_mid (ps_set (i:=1) sc__law_odd.nd rfl (Or.inl rfl) (pe_op op_cat (pv 1) (pe_lst (pa_cons pe_str (pa_cons pe_str (pa_cons pe_str (pa_cons pe_str (pa_cons pe_str pa_nil))))))))
  (pss_mid (ps_set (i:=1) sc__law_odd.nd rfl (Or.inl rfl) (pe_op op_cat (pv 1) (pe_lst (pa_cons pe_str (pa_cons pe_str (pa_cons pe_str (pa_cons pe_str (pa_cons pe_str pa_nil))))))))
  (pss_mid (ps_set (i:=1) sc__law_odd.nd rfl (Or.inl rfl) (pe_op op_cat (pv 1) (pe_lst (pa_cons pe_str (pa_cons pe_str (pa_cons pe_str (pa_cons pe_str (pa_cons pe_str pa_nil))))))))
  (pss_mid (ps_set (i:=1) sc__law_odd.nd rfl (Or.inl rfl) (pe_op op_cat (pv 1) (pe_lst (pa_cons pe_str (pa_cons pe_str (pa_cons pe_str (pa_cons pe_str pa_nil)))))))
  (pss_mid (ps_set (i:=1) sc__law_odd.nd rfl (Or.inl rfl) (pe_op op_cat (pv 1) (pe_lst (pa_cons pe_str (pa_cons pe_str (pa_cons pe_str (pa_cons pe_str pa_nil)))))))
  (pss_mid (ps_set (i:=1) sc__law_odd.nd rfl (Or.inl rfl) (pe_op op_cat (pv 1) (pe_lst (pa_cons pe_str (pa_cons pe_str (pa_cons pe_str (pa_cons pe_str pa_nil)))))))
  (pss_mid (ps_set (i:=1) sc__law_odd.nd rfl (Or.inl rfl) (pe_op op_cat (pv 1) (pe_lst (pa_cons pe_str (pa_cons pe_str (pa_cons pe_str (pa_cons pe_str pa_nil)))))))
  (pss_mid (ps_set (i:=1) sc__law_odd.nd rfl (Or.inl rfl) (pe_op op_cat (pv 1) (pe_lst (pa_cons pe_str (pa_cons pe_str (pa_cons pe_str (pa_cons pe_str pa_nil)))))))
  (pss_one (ps_ret (pe_ix ix_list (pv 1) (pe_op op_mod (pv 0) pe_int) (fun _ _=>rfl)))))))))))))),?_⟩
 obtain⟨M,hM⟩:∃M:Nat->L2.St->Hp->Prop,∀m σ Hx,M m σ Hx↔∃p xs,σ=[some (.int n),some (.ref p)]∧Hx p=some (.lst xs)∧xs.length=m∧xs.all okS=true∧Same H Hx:=⟨_,fun _ _ _=>Iff.rfl⟩
 dsimp only [a_seq]
 k_typeOf
 refine⟨by decide,fun p n0=>?_⟩
 have sp:=same_upd n0 (.lst [V.str (Str.ofString ""),V.str (Str.ofString " "),V.str (Str.ofString "C(n, k) *"),V.str (Str.ofString "C(n,k)"),V.str (Str.ofString "C(n, k)*(n)"),V.str (Str.ofString "c(n, k)")])
 obtain⟨xs,hxs⟩:∃xs,xs=[V.str (Str.ofString ""),V.str (Str.ofString " "),V.str (Str.ofString "C(n, k) *"),V.str (Str.ofString "C(n,k)"),V.str (Str.ofString "C(n, k)*(n)"),V.str (Str.ofString "c(n, k)")]:=⟨_,rfl⟩
 have lp:xs.length=6:=by rw [hxs];rfl
 have op:xs.all okS=true:=by rw [hxs];decide +kernel
 rw [← hxs] at sp ⊢
 have ep:(L2.upd H p (.lst xs)) p=some (.lst xs):=upd_same
 generalize L2.upd H p (.lst xs)=Hx at sp ep ⊢
 clear hxs n0
 refine mid_of (M 11) ?_ ?_
 ·k_units
  exact⟨by decide,fun q nq=>⟨_,same_upd nq _ _ _ ep,_,upd_same,by rw [lp];decide,fun r nr=>(hM _ _ _).mpr ⟨r,_,rfl,upd_same,by rw [List.length_append,lp];rfl,by rw [List.all_append,op];decide +kernel,(sp.trans (same_upd nq _)).trans (same_upd nr _)⟩⟩⟩
 clear ep lp op sp
 intro σ Hx hm
 obtain⟨p,xs,rfl,ep,lp,op,sp⟩:=(hM _ _ _).mp hm
 clear hm
 refine mid_of (M 16) ?_ ?_
 ·k_units
  exact⟨by decide,fun q nq=>⟨_,same_upd nq _ _ _ ep,_,upd_same,by rw [lp];decide,fun r nr=>(hM _ _ _).mpr ⟨r,_,rfl,upd_same,by rw [List.length_append,lp];rfl,by rw [List.all_append,op];decide +kernel,(sp.trans (same_upd nq _)).trans (same_upd nr _)⟩⟩⟩
 clear ep lp op sp
 intro σ Hx hm
 obtain⟨p,xs,rfl,ep,lp,op,sp⟩:=(hM _ _ _).mp hm
 clear hm
 refine mid_of (M 21) ?_ ?_
 ·k_units
  exact⟨by decide,fun q nq=>⟨_,same_upd nq _ _ _ ep,_,upd_same,by rw [lp];decide,fun r nr=>(hM _ _ _).mpr ⟨r,_,rfl,upd_same,by rw [List.length_append,lp];rfl,by rw [List.all_append,op];decide +kernel,(sp.trans (same_upd nq _)).trans (same_upd nr _)⟩⟩⟩
 clear ep lp op sp
 intro σ Hx hm
 obtain⟨p,xs,rfl,ep,lp,op,sp⟩:=(hM _ _ _).mp hm
 clear hm
 refine mid_of (M 25) ?_ ?_
 ·k_units
  exact⟨by decide,fun q nq=>⟨_,same_upd nq _ _ _ ep,_,upd_same,by rw [lp];decide,fun r nr=>(hM _ _ _).mpr ⟨r,_,rfl,upd_same,by rw [List.length_append,lp];rfl,by rw [List.all_append,op];decide +kernel,(sp.trans (same_upd nq _)).trans (same_upd nr _)⟩⟩⟩
 clear ep lp op sp
 intro σ Hx hm
 obtain⟨p,xs,rfl,ep,lp,op,sp⟩:=(hM _ _ _).mp hm
 clear hm
 refine mid_of (M 29) ?_ ?_
 ·k_units
  exact⟨by decide,fun q nq=>⟨_,same_upd nq _ _ _ ep,_,upd_same,by rw [lp];decide,fun r nr=>(hM _ _ _).mpr ⟨r,_,rfl,upd_same,by rw [List.length_append,lp];rfl,by rw [List.all_append,op];decide +kernel,(sp.trans (same_upd nq _)).trans (same_upd nr _)⟩⟩⟩
 clear ep lp op sp
 intro σ Hx hm
 obtain⟨p,xs,rfl,ep,lp,op,sp⟩:=(hM _ _ _).mp hm
 clear hm
 refine mid_of (M 33) ?_ ?_
 ·k_units
  exact⟨by decide,fun q nq=>⟨_,same_upd nq _ _ _ ep,_,upd_same,by rw [lp];decide,fun r nr=>(hM _ _ _).mpr ⟨r,_,rfl,upd_same,by rw [List.length_append,lp];rfl,by rw [List.all_append,op];decide +kernel,(sp.trans (same_upd nq _)).trans (same_upd nr _)⟩⟩⟩
 clear ep lp op sp
 intro σ Hx hm
 obtain⟨p,xs,rfl,ep,lp,op,sp⟩:=(hM _ _ _).mp hm
 clear hm
 refine mid_of (M 37) ?_ ?_
 ·k_units
  exact⟨by decide,fun q nq=>⟨_,same_upd nq _ _ _ ep,_,upd_same,by rw [lp];decide,fun r nr=>(hM _ _ _).mpr ⟨r,_,rfl,upd_same,by rw [List.length_append,lp];rfl,by rw [List.all_append,op];decide +kernel,(sp.trans (same_upd nq _)).trans (same_upd nr _)⟩⟩⟩
 clear ep lp op sp
 intro σ Hx hm
 obtain⟨p,xs,rfl,ep,lp,op,sp⟩:=(hM _ _ _).mp hm
 clear hm
 refine mid_of (M 41) ?_ ?_
 ·k_units
  exact⟨by decide,fun q nq=>⟨_,same_upd nq _ _ _ ep,_,upd_same,by rw [lp];decide,fun r nr=>(hM _ _ _).mpr ⟨r,_,rfl,upd_same,by rw [List.length_append,lp];rfl,by rw [List.all_append,op];decide +kernel,(sp.trans (same_upd nq _)).trans (same_upd nr _)⟩⟩⟩
 clear ep lp op sp
 intro σ Hx hm
 obtain⟨p,xs,rfl,ep,lp,op,sp⟩:=(hM _ _ _).mp hm
 clear hm
 k_units
 obtain⟨b,hb,bl⟩:∃b:Nat,n % 41=(b:Int)∧b < 41:=⟨(n % 41).toNat,by omega,by omega⟩
 have hi:b < xs.length:=by omega
 obtain⟨u,eu,lu⟩:=okS_of (List.all_eq_true.mp op _ (List.getElem_mem hi))
 refine⟨by decide,_,SqL.of ep,_,by rw [hb];exact atI_nat (List.getElem?_eq_getElem hi),?_⟩
 rw [eu]
 exact k u _ lu sp
theorem sh_lenN {n:Int} (h:NB n):(TX.shI n).length<=61:=by
 have:=TX.dg_len h (by decide)
 unfold TX.shI;split
 ·simp;omega
 ·omega
theorem cnt_lenN {n:Int} (h:NB n) (i:Nat):(cntT n (Ltr i)).length<=62:=by
 have:=sh_lenN h
 have l:(Ltr i).length<=1:=by unfold Ltr;split;simp;split <;> simp
 unfold cntT;split
 ·rw [List.length_append];omega
 ·split
  ·omega
  ·rw [List.length_cons];omega
theorem step_lenN {acc:List Nat} {n:Int} (h:NB n) (i:Nat):(stepT acc n (Ltr i)).length<=acc.length+63:=by
 have:=cnt_lenN h i
 unfold stepT;split
 ·omega
 ·rw [List.length_append,List.length_append]
  have:(if 0 < n∧acc≠[] then [43] else ([]:List Nat)).length<=1:=by split <;> simp
  omega
theorem shF_lenN {f:F3} (h:NF f):(shF f).length<=189:=by
 have h1:=step_lenN (acc:=[]) h.1 0
 have h2:=step_lenN (acc:=stepT [] f.1 (Ltr 0)) h.2.1 1
 have h3:=step_lenN (acc:=stepT (stepT [] f.1 (Ltr 0)) f.2.1 (Ltr 1)) h.2.2 2
 have h4:(allT f).length<=189:=by
  rw [List.length_nil] at h1
  show (stepT (stepT (stepT [] f.1 (Ltr 0)) f.2.1 (Ltr 1)) f.2.2 (Ltr 2)).length<=189
  omega
 unfold shF;split
 ·simp
 ·exact h4
theorem shR_lenN {f:Int×Int} (h1:NB f.1) (h2:NB f.2):(shR f).length<=123:=by
 have:=sh_lenN h1
 have:=sh_lenN h2
 unfold shR;split
 ·omega
 ·rw [List.length_append,List.length_cons];omega
theorem prN_len {p:Prt} (h:prN p):(prT p).length<=400:=by
 match p,h with
 | .cho f g,h=>
  have:=shF_lenN h.1
  have:=shF_lenN h.2
  simp [prT];omega
 | .wei f,h=>have:=shF_lenN h;simp [prT];omega
 | .pow f,h=>have:=shR_lenN h.2.1 h.2.2;simp [prT];omega
 | .gro f,h=>have:=shR_lenN h.2.1 h.2.2;simp [prT];omega
theorem prt_b {p:Prt} (h:prN p):PrB p∧prF p:=by
 match p,h with
 | .cho f g,h=>exact⟨⟨⟨nb_400 h.1.1,nb_400 h.1.2.1,nb_400 h.1.2.2⟩,nb_400 h.2.1,nb_400 h.2.2.1,nb_400 h.2.2.2⟩,trivial⟩
 | .wei f,h=>exact⟨⟨nb_400 h.1,nb_400 h.2.1,nb_400 h.2.2⟩,trivial⟩
 | .pow f,h=>exact⟨⟨nb_400 h.2.1,nb_400 h.2.2⟩,h.1.1⟩
 | .gro f,h=>exact⟨⟨nb_400 h.2.1,nb_400 h.2.2⟩,h.1.1⟩
theorem jn_le {w:List Nat} {B:Nat}:∀{ps:List (List Nat)},(∀p∈ps,p.length<=B)->(TX.jn w ps).length<=ps.length * (B+w.length)
 | [],_=>by simp [TX.jn]
 | [p],h=>by have:=h p (.head _);simp [TX.jn];omega
 | p :: q :: r,h=>by
  have h1:=h p (.head _)
  have h2:=jn_le (w:=w) (ps:=q :: r) fun x hx=>h x (.tail _ hx)
  rw [jn_cons2,List.length_append,List.length_append,List.length_cons,Nat.succ_mul]
  omega
theorem trT_len {ps:List Prt} (h:∀p∈ps,prN p) (l6:ps.length<=6):(trT ps).length<=2500:=by
 have:=jn_le (w:=[32,42,32]) (B:=400) (ps:=ps.map prT) fun q hq=>by
  obtain⟨p,hp,rfl⟩:=List.mem_map.mp hq
  exact prN_len (h p hp)
 rw [List.length_map] at this
 have e:[32,42,32].length=3:=rfl
 rw [e] at this
 have h2:=Nat.mul_le_mul_right 403 l6
 show (TX.jn [32,42,32] (ps.map prT)).length<=2500
 omega
def spLaw (K:W.Frag):Sp:=fun vs H Q _=>∃(a:Addr) (ns:List Int),vs=[.ref a]∧SqL K H a (ns.map V.int)∧ns.length<=63∧∀H',Q (.bl true) H'
theorem ok_law {P:Program} {w:World} {K:W.Frag} {mg:Str->Option Value} {base:Heap} (T:Tx K mg):FnOk P w K mg base CX0 12 T.a_law T.fd_law ["_law_script"] (spLaw K):=by
 refine T.F_law.ok sc_law (fun vs H Q E h=>?_) (fun cdv A outer s H vs Q E hr h=>?_)
 ·obtain⟨a,ns,rfl,_⟩:=h
  rfl
 obtain⟨A,ns,rfl,hA,hns,q⟩:=h
 refine⟨_,((pss_cons (ps_set (i:=1) sc_law.nd rfl (Or.inl rfl) (pe_bm PySem.F.plainAttrs_str PySem.F.slot_str_join PySem.F.type_str_join mt_join pe_str (pa_cons (pe_lcomp rfl (blkok rfl sub_nil fv_nil) (pi_list (pe_call (FnOk.mono (ok__law_parts T) (by decide)) hr rfl T.m__law_parts T.F__law_parts.kp T.b__law_parts .nil pass0 (pa_cons (pv 0) (pa_cons (pe_lst (pa_cons pe_int (pa_cons pe_int (pa_cons pe_int (pa_cons pe_int (pa_cons pe_int (pa_cons pe_int pa_nil))))))) pa_nil)))) (fun _ _ _ _=>(pe_call (FnOk.mono (ok__law_part_text T) (by decide)) hr rfl T.m__law_part_text T.F__law_part_text.kp T.b__law_part_text .nil pass0 (pa_cons (pv 0) pa_nil)))) pa_nil)))
  (pss_cons (ps_set (i:=2) sc_law.nd rfl (Or.inl rfl) (pe_call (FnOk.mono (ok__law_changed T) (by decide)) hr rfl T.m__law_changed T.F__law_changed.kp T.b__law_changed .nil pass0 (pa_cons (pv 1) (pa_cons (pv 0) pa_nil))))
  (pss_cons (ps_setC (i:=3) rfl (blkok rfl (sub_cons rfl sub_nil) (fv_cons 0 "_law_script" (by decide) rfl (Or.inl rfl) (Or.inl rfl) ⟨_,rfl⟩ fv_nil)) (pi_range2 rfl T.z_range (pa_cons pe_int (pa_cons pe_int pa_nil))) (fun _ _ _ _=>(pe_call (FnOk.mono (ok__law_odd T) (by decide)) hr rfl T.m__law_odd T.F__law_odd.kp T.b__law_odd .nil pass0 (pa_cons (pe_call (FnOk.mono (ok__law_mixed T) (by decide)) hr rfl T.m__law_mixed T.F__law_mixed.kp T.b__law_mixed .nil pass0 (pa_cons (pe_call (FnOk.mono (ok__law_cell_at T) (by decide)) hr rfl T.m__law_cell_at T.F__law_cell_at.kp T.b__law_cell_at .nil pass0 (pa_cons (pv 1) (pa_cons (pv 0) pa_nil))) (pa_cons pe_int pa_nil))) pa_nil))) sc_law.nd rfl rfl)
  (pss_cons (ps_for PassesOwn.never rfl (pi_list (pe_lst (pa_cons (pv 2) (pa_cons (pe_ix ix_list (pv 3) pe_int (fun _ _=>rfl)) (pa_cons (pe_ix ix_list (pv 3) pe_int (fun _ _=>rfl)) (pa_cons (pe_ix ix_list (pv 3) pe_int (fun _ _=>rfl)) (pa_cons (pe_op op_catS (pe_op op_catS (pv 2) pe_str) (pe_ix ix_list (pv 3) pe_int (fun _ _=>rfl))) (pa_cons (pe_op op_catS (pe_op op_catS (pe_ix ix_list (pv 3) pe_int (fun _ _=>rfl)) pe_str) (pv 1)) (pa_cons (pv 1) pa_nil))))))))) (pg_name (i:=4) sc_law.nd rfl (Or.inl rfl)) (pss_one (ps_if (pt_not (pt_val (pe_call (FnOk.mono (ok__law_judged T) (by decide)) hr rfl T.m__law_judged T.F__law_judged.kp T.b__law_judged .nil pass0 (pa_cons (pv 4) pa_nil)))) (pss_one (ps_ret pe_bl)) pss_nil)))
  (pss_one (ps_ret pe_bl))))))),?_⟩
 dsimp only [a_seq]
 k_typeOf
 refine⟨by decide,fun p0 n0=>?_⟩
 have w0:=same_upd n0 (.lst [V.int 3,V.int 3,V.int 3,V.int 3,V.int 3,V.int 3])
 refine⟨A,p0,ns,rfl,w0.seq hA,upd_same,fun L rs ps H1 w1 nL eL hP hO l1 l6=>?_⟩
 have s1:=w0.trans w1
 have hN:∀p∈ps,prN p:=fun p hp=>prt_n (hO p hp)
 have lT:=trT_len hN l6
 clear w0 w1 nL
 refine⟨L,rfl,⟨_,SqL.of eL⟩,fun D nD=>?_⟩
 refine cl_vals (xs:=rs.map V.ref) (zs:=(ps.map fun p=>TX.S (prT p)).map V.str) nD (SqL.of eL) (by simp [hP.len]) (by simp;omega) (fun i v z Hx R hv hz sx hR=>?_) fun D' H4 s4 nD' eD'=>⟨D',rfl,_,SqL.of eD',?_,?_⟩
 ·rw [List.getElem?_map] at hv
  obtain⟨r,hr',rfl⟩:=Option.map_eq_some_iff.mp hv
  rw [List.getElem?_map,List.getElem?_map] at hz
  obtain⟨y,hy,rfl⟩:=Option.map_eq_some_iff.mp hz
  obtain⟨p,hp,rfl⟩:=Option.map_eq_some_iff.mp hy
  (iterate 3 (k_units;(try simp only [bst]));k_units)
  have hb:=prt_b (hN p (List.mem_of_getElem? hp))
  exact⟨r,p,rfl,(hP.get i r p hr' hp).on sx,hb.1,hb.2,hR⟩
 ·have:=StrLaws.sumLen_le (B:=400) (ps.map fun p=>TX.S (prT p)) fun y hy=>by
   obtain⟨p,hp,rfl⟩:=List.mem_map.mp hy
   rw [TX.S_len];exact prN_len (hN p hp)
  rw [List.length_map] at this ⊢
  rw [l_st,TX.S_len]
  have e:[32,42,32].length=3:=rfl
  rw [e]
  omega
 rw [l_st,show (ps.map fun p=>TX.S (prT p))=(ps.map prT).map TX.S by rw [List.map_map];rfl,TX.join_S,show TX.jn [32,42,32] (ps.map prT)=trT ps from rfl]
 have s14:=s1.trans s4
 generalize trT ps=t at lT ⊢
 clear eD' nD' s4 nD eL s1 hN hP hO l1 l6
 dsimp only [a_seq]
 k_typeOf
 refine⟨A,t,ns,rfl,s14.seq hA,by omega,fun u H5 lu s5=>?_⟩
 have s15:=s14.trans s5
 clear s14 s5
 dsimp only [a_seq]
 k_typeOf
 refine⟨by decide,by decide,by decide,by decide,fun D nD=>?_⟩
 obtain⟨Pc,hPc⟩:∃Pc:Nat->Hp->Prop,∀j Hx,Pc j Hx↔∃ws:List (List Nat),ws.length=j∧Hx D=some (.lst ((ws.map TX.S).map V.str))∧(∀w∈ws,w.length<=20)∧Same H5 Hx:=⟨_,fun _ _=>Iff.rfl⟩
 refine cl_range Pc ((hPc _ _).mpr ⟨[],rfl,upd_same,fun w hw=>(nomatch hw),same_upd nD _⟩) ?_ ?_
 ·intro i Hx hi hc
  obtain⟨ws,rfl,k1,k2,k3⟩:=(hPc _ _).mp hc
  have hi5:ws.length < 5:=hi
  (iterate 3 (k_units;(try simp only [bst]));k_units)
  refine⟨_,rfl,A,ns,26+ws.length,by congr 3,(s15.trans k3).seq hA,_,12,rfl,by decide,fun n hn=>⟨_,rfl,fun w H6 lw s6=>⟨_,s6 _ _ k1,by rw [List.length_map,List.length_map];exact small1000 (by omega),(hPc _ _).mpr ⟨ws++[w],by simp,by rw [upd_same];simp,fun w' hw'=>?_,(k3.trans s6).more nD⟩⟩⟩⟩
  rcases List.mem_append.mp hw' with h | h
  ·exact k2 w' h
  ·rw [List.mem_singleton.mp h];exact lw
 intro Hx hc
 obtain⟨ws,lw,k1,k2,k3⟩:=(hPc _ _).mp hc
 clear hc hPc Pc nD
 have lw5:ws.length=5:=lw
 obtain⟨w0,w1,w2,w3,w4,rfl⟩:∃w0 w1 w2 w3 w4,ws=[w0,w1,w2,w3,w4]:=by
  match ws,lw5 with
  | [w0,w1,w2,w3,w4],_=>exact⟨w0,w1,w2,w3,w4,rfl⟩
 have b0:=k2 w0 (by simp)
 have b1:=k2 w1 (by simp)
 have b2:=k2 w2 (by simp)
 have b3:=k2 w3 (by simp)
 have b4:=k2 w4 (by simp)
 clear k2 lw lw5
 have kl:=SqL.of (K:=K) k1
 dsimp only [a_seq]
 k_typeOf
 refine⟨_,kl,_,rfl,_,kl,_,rfl,_,kl,_,rfl,by rw [TX.S_len,TX.S_len];exact sl_of (by simp;omega),_,kl,_,rfl,_,rfl,?_,_,kl,_,rfl,_,rfl,by rw [TX.S_len,TX.S_len];exact sl_of (by simp;omega),?_,by decide,fun p np=>⟨⟨_,SqL.of upd_same⟩,?_⟩⟩
 ·rw [TX.S_app,TX.S_len,TX.S_len];exact sl_of (by simp;omega)
 ·rw [TX.S_app,TX.S_len,TX.S_len];exact sl_of (by simp;omega)
 rw [TX.S_app,TX.S_app,TX.S_app,TX.S_app]
 obtain⟨us,hus⟩:∃us:List (List Nat),us=[u,w0,w1,w2,u++[32,42,32]++w3,w4++[32,42,32]++t,t]:=⟨_,rfl⟩
 have bu:∀w∈us,w.length<=3000:=fun w hw=>by
  rw [hus] at hw
  simp only [List.mem_cons,List.not_mem_nil,or_false] at hw
  rcases hw with rfl | rfl | rfl | rfl | rfl | rfl | rfl <;> (try simp only [List.length_append,List.length_cons,List.length_nil]) <;> omega
 have ex:[V.str (TX.S u),V.str (TX.S w0),V.str (TX.S w1),V.str (TX.S w2),V.str (TX.S (u++[32,42,32]++w3)),V.str (TX.S (w4++[32,42,32]++t)),V.str (TX.S t)]=us.map fun w=>V.str (TX.S w):=by rw [hus];rfl
 rw [ex]
 clear ex hus
 obtain⟨Pv,hPv⟩:∃Pv:Nat->L2.St->Hp->Prop,∀i σ H',Pv i σ H'↔∃r4:Option V,σ=[some (V.ref A),some (.str (TX.S t)),some (.str (TX.S u)),some (.ref D),r4]∧H' p=some (.lst (us.map fun w=>V.str (TX.S w))):=⟨_,fun _ _ _=>Iff.rfl⟩
 refine lp_list (xs:=us.map fun w=>V.str (TX.S w)) Pv ((hPv _ _ _).mpr ⟨_,rfl,upd_same⟩) (fun i σ H' _ z=>by obtain⟨_,_,z⟩:=(hPv i σ H').mp z;exact SqL.of z) ?_ ?_
 ·intro i v σ Hy hv hp
  obtain⟨r4,rfl,ky⟩:=(hPv _ _ _).mp hp
  rw [List.getElem?_map] at hv
  obtain⟨w,hw,rfl⟩:=Option.map_eq_some_iff.mp hv
  k_units
  refine⟨w,rfl,bu w (List.mem_of_getElem? hw),fun H7 s7=>⟨true,rfl,?_⟩⟩
  rw [if_neg (by decide)]
  exact (hPv _ _ _).mpr ⟨_,rfl,s7 _ _ ky⟩
 intro σ Hy hp
 obtain⟨r4,rfl,ky⟩:=(hPv _ _ _).mp hp
 k_units
 exact q _
theorem ln_1 {us:List Value} (h:us.length=1):∃x0,us=[x0]:=by
 obtain⟨x0,u0,rfl⟩:=List.exists_cons_of_length_eq_add_one h
 exact⟨x0,by rw [List.eq_nil_of_length_eq_zero (Nat.succ.inj h)]⟩
theorem ln_2 {us:List Value} (h:us.length=2):∃x0 x1,us=[x0,x1]:=by
 obtain⟨x0,u0,rfl⟩:=List.exists_cons_of_length_eq_add_one h
 obtain⟨x1,u1,rfl⟩:=List.exists_cons_of_length_eq_add_one (Nat.succ.inj h)
 exact⟨x0,x1,by rw [List.eq_nil_of_length_eq_zero (Nat.succ.inj (Nat.succ.inj h))]⟩
theorem ln_3 {us:List Value} (h:us.length=3):∃x0 x1 x2,us=[x0,x1,x2]:=by
 obtain⟨x0,u0,rfl⟩:=List.exists_cons_of_length_eq_add_one h
 obtain⟨x1,u1,rfl⟩:=List.exists_cons_of_length_eq_add_one (Nat.succ.inj h)
 obtain⟨x2,u2,rfl⟩:=List.exists_cons_of_length_eq_add_one (Nat.succ.inj (Nat.succ.inj h))
 exact⟨x0,x1,x2,by rw [List.eq_nil_of_length_eq_zero (Nat.succ.inj (Nat.succ.inj (Nat.succ.inj h)))]⟩
local macro_rules | `(tactic| o_law)=>`(tactic| (intro _ _ _ _ _ _ us hl;first | (obtain⟨x0,e⟩:=ln_1 hl;subst e;rfl) | (obtain⟨x0,x1,e⟩:=ln_2 hl;subst e;rfl) | (obtain⟨x0,x1,x2,e⟩:=ln_3 hl;subst e;rfl)))
abbrev fdK (x q:Str) (st:Stmt) (pm:Value) (c:Nat):FuncData:=PySem.W.fnOf x q (defArgs st) (defBody st) (defScope st) .none .none .none pm none (.ref c) .none
abbrev FU (P:Params) (x q:Str) (st:Stmt) (f:Addr) (pm:Value) (c:Nat):Prop:=Fun (KK P) x q st f (fdK x q st pm c)
theorem fuk {P:Params} {x q:Str} {st:Stmt} {f:Addr} {pm:Value} {c:Nat} (l:(KK P).lookup f=some ⟨.type "function",none,.func (fdK x q st pm c),#[]⟩:=by kernel_rfl) (h:PySem.W.codeIn (KK P) (.ref c) q=true:=by kernel_rfl) (k:PySem.W.keepIn (KK P) (.ref f)=true:=by kernel_rfl):FU P x q st f pm c:=fun_mk l h k
abbrev pm0:Value:=.str "sumcraft.ratios" 376
abbrev pm1:Value:=.str "sumcraft.parts" 458
abbrev pm2:Value:=.str "sumcraft.terms" 822
abbrev pm3:Value:=.str "sumcraft.texts" 935
abbrev pm4:Value:=.str "law_sumcraft_k58_texts_read_or_refused" 1032
theorem kf0 (P:Params):FU P "divisor" "divisor" s_divisor 168 pm0 167:=fuk
theorem kf1 (P:Params):FU P "ratio" "ratio" s_ratio 175 pm0 174:=fuk
theorem kf2 (P:Params):FU P "low_forms" "low_forms" s_low_forms 227 pm1 226:=fuk
theorem kf3 (P:Params):FU P "within" "within" s_within 482 pm2 481:=fuk
theorem kf4 (P:Params):FU P "check_choose" "check_choose" s_check_choose 489 pm2 488:=fuk
theorem kf5 (P:Params):FU P "check_base" "check_base" s_check_base 496 pm2 495:=fuk
theorem kf6 (P:Params):FU P "piece_of" "piece_of" s_piece_of 503 pm2 502:=fuk
theorem kf7 (P:Params):FU P "show_ratio" "show_ratio" s_show_ratio 559 pm3 558:=fuk
theorem kf8 (P:Params):FU P "show_counted" "show_counted" s_show_counted 566 pm3 565:=fuk
theorem kf9 (P:Params):FU P "show_form" "show_form" s_show_form 573 pm3 572:=fuk
theorem kf10 (P:Params):FU P "read_whole" "read_whole" s_read_whole 578 pm3 577:=fuk
theorem kf11 (P:Params):FU P "read_ratio" "read_ratio" s_read_ratio 585 pm3 584:=fuk
theorem kf12 (P:Params):FU P "read_counted" "read_counted" s_read_counted 592 pm3 591:=fuk
theorem kf13 (P:Params):FU P "read_form" "read_form" s_read_form 599 pm3 598:=fuk
theorem kf14 (P:Params):FU P "read_choose" "read_choose" s_read_choose 604 pm3 603:=fuk
theorem kf15 (P:Params):FU P "read_part" "read_part" s_read_part 611 pm3 610:=fuk
theorem kf16 (P:Params):FU P "read_term" "read_term" s_read_term 616 pm3 615:=fuk
theorem kf17 (P:Params):FU P "_law_cell_at" "_law_cell_at" s__law_cell_at 623 pm4 622:=fuk
theorem kf18 (P:Params):FU P "_law_number" "_law_number" s__law_number 630 pm4 629:=fuk
theorem kf19 (P:Params):FU P "_law_divisor" "_law_divisor" s__law_divisor 637 pm4 636:=fuk
theorem kf20 (P:Params):FU P "_law_mixed" "_law_mixed" s__law_mixed 644 pm4 643:=fuk
theorem kf21 (P:Params):FU P "_law_forms" "_law_forms" s__law_forms 651 pm4 650:=fuk
theorem kf22 (P:Params):FU P "_law_ratio" "_law_ratio" s__law_ratio 658 pm4 657:=fuk
theorem kf23 (P:Params):FU P "_law_part" "_law_part" s__law_part 663 pm4 662:=fuk
theorem kf24 (P:Params):FU P "_law_parts" "_law_parts" s__law_parts 668 pm4 667:=fuk
theorem kf25 (P:Params):FU P "_law_form_text" "_law_form_text" s__law_form_text 675 pm4 674:=fuk
theorem kf26 (P:Params):FU P "_law_ratio_text" "_law_ratio_text" s__law_ratio_text 680 pm4 679:=fuk
theorem kf27 (P:Params):FU P "_law_part_text" "_law_part_text" s__law_part_text 687 pm4 686:=fuk
theorem kf28 (P:Params):FU P "_law_is" "_law_is" s__law_is 692 pm4 691:=fuk
theorem kf29 (P:Params):FU P "_law_changed" "_law_changed" s__law_changed 699 pm4 698:=fuk
theorem kf30 (P:Params):FU P "_law_odd" "_law_odd" s__law_odd 706 pm4 705:=fuk
theorem kf31 (P:Params):FU P "_law_whole_of" "_law_whole_of" s__law_whole_of 713 pm4 712:=fuk
theorem kf32 (P:Params):FU P "_law_form_of" "_law_form_of" s__law_form_of 720 pm4 719:=fuk
theorem kf33 (P:Params):FU P "_law_ratio_of" "_law_ratio_of" s__law_ratio_of 725 pm4 724:=fuk
theorem kf34 (P:Params):FU P "_law_is_choose" "_law_is_choose" s__law_is_choose 732 pm4 731:=fuk
theorem kf35 (P:Params):FU P "_law_part_of" "_law_part_of" s__law_part_of 739 pm4 738:=fuk
theorem kf36 (P:Params):FU P "_law_judged" "_law_judged" s__law_judged 744 pm4 743:=fuk
theorem kf37 (P:Params):FU P "law" "law" s_law 749 pm4 748:=fuk
theorem kf38 (P:Params):FU P "__init__" "Choose.__init__" s_Choose___init__ 311 pm1 310:=fuk
theorem kf39 (P:Params):FU P "__init__" "Weight.__init__" s_Weight___init__ 368 pm1 367:=fuk
theorem kf40 (P:Params):FU P "__init__" "Power.__init__" s_Power___init__ 401 pm1 400:=fuk
theorem kf41 (P:Params):FU P "__init__" "Growth.__init__" s_Growth___init__ 448 pm1 447:=fuk
theorem kf42 (P:Params):FU P "__init__" "Term.__init__" s_Term___init__ 522 pm2 521:=fuk
theorem kf43 (P:Params):FU P "told" "Term.told" s_Term_told 529 pm2 528:=fuk
theorem kx0 (P:Params):∀H:Hp,SqT (KK P) H 477 [.int (3),.int (3),.int (9)]:=fun H=>.inr ⟨⟨.type "tuple",none,.seq #[.int (3) 837,.int (3) 838,.int (9) 839],#[]⟩,_,_,by kernel_rfl,rfl,rfl,by decide,.cons ⟨_,rfl⟩ (.cons ⟨_,rfl⟩ (.cons ⟨_,rfl⟩ .nil))⟩
theorem kx1 (P:Params):∀H:Hp,SqT (KK P) H 475 [.int (0),.int (0),.int (0)]:=fun H=>.inr ⟨⟨.type "tuple",none,.seq #[.int (0) 826,.int (0) 827,.int (0) 828],#[]⟩,_,_,by kernel_rfl,rfl,rfl,by decide,.cons ⟨_,rfl⟩ (.cons ⟨_,rfl⟩ (.cons ⟨_,rfl⟩ .nil))⟩
theorem kx2 (P:Params):∀H:Hp,SqT (KK P) H 476 [.int (-3),.int (-3),.int (-9)]:=fun H=>.inr ⟨⟨.type "tuple",none,.seq #[.int (-3) 831,.int (-3) 833,.int (-9) 835],#[]⟩,_,_,by kernel_rfl,rfl,rfl,by decide,.cons ⟨_,rfl⟩ (.cons ⟨_,rfl⟩ (.cons ⟨_,rfl⟩ .nil))⟩
theorem kx3 (P:Params):(∀H:Hp,SqT (KK P) H 552 [.str "n",.str "k",.str ""])∧∃o,(KK P).lookup 552=some o∧o.cls=.type "tuple" ∧ o.dict=none:=⟨fun H=>.inr ⟨⟨.type "tuple",none,.seq #[.str "n" 945,.str "k" 946,.str "" 947],#[]⟩,_,_,by kernel_rfl,rfl,rfl,by decide,.cons ⟨_,rfl⟩ (.cons ⟨_,rfl⟩ (.cons ⟨_,rfl⟩ .nil))⟩,⟨.type "tuple",none,.seq #[.str "n" 945,.str "k" 946,.str "" 947],#[]⟩,by kernel_rfl,rfl,rfl⟩
theorem walk {l:PySem.W.OpenLaw} {q:Program} {loose:List Str} {XP:(Str->Option Value)->Heap->Prop} {YP:World->Heap->Prop} {d:DefRec} {K:Params->W.Frag} (hn:l.most=some 63) (hdf:d.params.defaults=[])
  (hY:∀(w:World) (h:Heap),YP w h->(K w.params).In h)
  (F:∀(w:World) (mg:Str->Option Value) (fa:Addr) (h:Heap),(K w.params).In h->h.Ns mainGlobals mg->mg d.name=some (.ref fa)->
   ∃T:Tx (K w.params) mg,T.a_law=fa∧∀(s:Shared) (v:Value),BindsTo s T.fd_law ⟨[v],[]⟩ [("_law_script",v)]):
  PySem.W.WalkO q loose XP YP l.row.toRowW d [] (fun f vs=>PySem.call f vs):=
 L2.walk_of (n:=63) (k:=40) (x := "_law_script") (CX:=fun _=>CX0) (sp:=fun w=>spLaw (K w.params)) hn (by decide) hdf ⟨rfl,by decide,by decide⟩ hY
  (fun w mg fa h KX G hmg=>by
   obtain⟨T,e,hb⟩:=F w mg fa h KX G hmg
   subst e
   exact⟨T.fd_law,hb,fun base _ _=>FnOk.mono (ok_law T) (by decide)⟩)
  (fun _ H a ns hl _ hS=>⟨a,ns,rfl,hS,hl,fun _=>rfl⟩) fun _ _ _ _ _ z=>z
theorem facts (w:World) (mg:Str->Option Value) (fa:Addr) (h:Heap) (KX:(KK w.params).In h) (G:h.Ns mainGlobals mg) (hmg:mg "law" = some (.ref fa)):
  ∃T:Tx (KK w.params) mg,T.a_law=fa∧∀(s:Shared) (v:Value),BindsTo s T.fd_law ⟨[v],[]⟩ [("_law_script",v)]:=by
 have ma:∀{x:Str} {f:Addr},PySem.W.nsIn (KK w.params) mainGlobals x=some (some (.ref f))->mg x=some (.ref f):=fun e=>PySem.W.mg_of KX G e
 have mi:∀{x:Str} {i:Int} {t:Tok},PySem.W.nsIn (KK w.params) mainGlobals x=some (some (.int i t))->mg x=some (.int i t):=fun e=>PySem.W.mg_of KX G e
 have mz:∀{x:Str},PySem.W.nsIn (KK w.params) mainGlobals x=some none->mg x=none:=fun e=>PySem.W.mg_none_of KX G e
 have e:=hmg.symm.trans (ma (f:=749) (by kernel_rfl))
 cases e
 exact⟨⟨_,_,kf0 _,ma (by kernel_rfl),(kf0 _).binds (by o_law),_,_,kf1 _,ma (by kernel_rfl),(kf1 _).binds (by o_law),_,_,kf2 _,ma (by kernel_rfl),(kf2 _).binds (by o_law),_,_,kf3 _,ma (by kernel_rfl),(kf3 _).binds (by o_law),_,_,kf4 _,ma (by kernel_rfl),(kf4 _).binds (by o_law),_,_,kf5 _,ma (by kernel_rfl),(kf5 _).binds (by o_law),_,_,kf6 _,ma (by kernel_rfl),(kf6 _).binds (by o_law),_,_,kf7 _,ma (by kernel_rfl),(kf7 _).binds (by o_law),_,_,kf8 _,ma (by kernel_rfl),(kf8 _).binds (by o_law),_,_,kf9 _,ma (by kernel_rfl),(kf9 _).binds (by o_law),_,_,kf10 _,ma (by kernel_rfl),(kf10 _).binds (by o_law),_,_,kf11 _,ma (by kernel_rfl),(kf11 _).binds (by o_law),_,_,kf12 _,ma (by kernel_rfl),(kf12 _).binds (by o_law),_,_,kf13 _,ma (by kernel_rfl),(kf13 _).binds (by o_law),_,_,kf14 _,ma (by kernel_rfl),(kf14 _).binds (by o_law),_,_,kf15 _,ma (by kernel_rfl),(kf15 _).binds (by o_law),_,_,kf16 _,ma (by kernel_rfl),(kf16 _).binds (by o_law),_,_,kf17 _,ma (by kernel_rfl),(kf17 _).binds (by o_law),_,_,kf18 _,ma (by kernel_rfl),(kf18 _).binds (by o_law),_,_,kf19 _,ma (by kernel_rfl),(kf19 _).binds (by o_law),_,_,kf20 _,ma (by kernel_rfl),(kf20 _).binds (by o_law),_,_,kf21 _,ma (by kernel_rfl),(kf21 _).binds (by o_law),_,_,kf22 _,ma (by kernel_rfl),(kf22 _).binds (by o_law),_,_,kf23 _,ma (by kernel_rfl),(kf23 _).binds (by o_law),_,_,kf24 _,ma (by kernel_rfl),(kf24 _).binds (by o_law),_,_,kf25 _,ma (by kernel_rfl),(kf25 _).binds (by o_law),_,_,kf26 _,ma (by kernel_rfl),(kf26 _).binds (by o_law),_,_,kf27 _,ma (by kernel_rfl),(kf27 _).binds (by o_law),_,_,kf28 _,ma (by kernel_rfl),(kf28 _).binds (by o_law),_,_,kf29 _,ma (by kernel_rfl),(kf29 _).binds (by o_law),_,_,kf30 _,ma (by kernel_rfl),(kf30 _).binds (by o_law),_,_,kf31 _,ma (by kernel_rfl),(kf31 _).binds (by o_law),_,_,kf32 _,ma (by kernel_rfl),(kf32 _).binds (by o_law),_,_,kf33 _,ma (by kernel_rfl),(kf33 _).binds (by o_law),_,_,kf34 _,ma (by kernel_rfl),(kf34 _).binds (by o_law),_,_,kf35 _,ma (by kernel_rfl),(kf35 _).binds (by o_law),_,_,kf36 _,ma (by kernel_rfl),(kf36 _).binds (by o_law),_,_,kf37 _,ma (by kernel_rfl),(kf37 _).binds (by o_law),_,_,kf38 _,(kf38 _).binds (by o_law),_,_,kf39 _,(kf39 _).binds (by o_law),_,_,kf40 _,(kf40 _).binds (by o_law),_,_,kf41 _,(kf41 _).binds (by o_law),_,_,kf42 _,(kf42 _).binds (by o_law),_,_,kf43 _,(kf43 _).binds (by o_law),37,ma (by kernel_rfl),by kernel_rfl,116,ma (by kernel_rfl),by kernel_rfl,24,ma (by kernel_rfl),61,ma (by kernel_rfl),80,ma (by kernel_rfl),128,ma (by kernel_rfl),140,ma (by kernel_rfl),152,ma (by kernel_rfl),49,ma (by kernel_rfl),92,ma (by kernel_rfl),104,ma (by kernel_rfl),352,ma (by kernel_rfl),⟨by kernel_rfl,by kernel_rfl,by kernel_rfl,by kernel_rfl⟩,⟨by kernel_rfl,by kernel_rfl,by kernel_rfl,by kernel_rfl⟩,by show PySem.W.findIn _ _ _=_;kernel_rfl,by show PySem.W.findIn _ _ _=_;kernel_rfl,472,ma (by kernel_rfl),⟨by kernel_rfl,by kernel_rfl,by kernel_rfl,by kernel_rfl⟩,⟨by kernel_rfl,by kernel_rfl,by kernel_rfl,by kernel_rfl⟩,by show PySem.W.findIn _ _ _=_;kernel_rfl,293,ma (by kernel_rfl),⟨by kernel_rfl,by kernel_rfl,by kernel_rfl,by kernel_rfl⟩,432,ma (by kernel_rfl),⟨by kernel_rfl,by kernel_rfl,by kernel_rfl,by kernel_rfl⟩,⟨by kernel_rfl,by kernel_rfl,by kernel_rfl,by kernel_rfl⟩,by show PySem.W.findIn _ _ _=_;kernel_rfl,547,ma (by kernel_rfl),⟨by kernel_rfl,by kernel_rfl,by kernel_rfl,by kernel_rfl⟩,⟨by kernel_rfl,by kernel_rfl,by kernel_rfl,by kernel_rfl⟩,⟨by kernel_rfl,by kernel_rfl,by kernel_rfl⟩,by show PySem.W.findIn _ _ _=_;kernel_rfl,by show PySem.W.findIn _ _ _=_;kernel_rfl,⟨by kernel_rfl,by kernel_rfl,by kernel_rfl,by kernel_rfl⟩,385,ma (by kernel_rfl),⟨by kernel_rfl,by kernel_rfl,by kernel_rfl,by kernel_rfl⟩,⟨by kernel_rfl,by kernel_rfl,by kernel_rfl,by kernel_rfl⟩,by show PySem.W.findIn _ _ _=_;kernel_rfl,⟨by kernel_rfl,by kernel_rfl,by kernel_rfl,by kernel_rfl⟩,⟨by kernel_rfl,by kernel_rfl,by kernel_rfl,by kernel_rfl,by kernel_rfl,by kernel_rfl,by kernel_rfl,by kernel_rfl⟩,by kernel_rfl,by kernel_rfl,by kernel_rfl,by kernel_rfl,by kernel_rfl,by kernel_rfl,by kernel_rfl,by kernel_rfl,by kernel_rfl,by kernel_rfl,by kernel_rfl,by kernel_rfl,mz (by kernel_rfl),mz (by kernel_rfl),mz (by kernel_rfl),mz (by kernel_rfl),mz (by kernel_rfl),mz (by kernel_rfl),mz (by kernel_rfl),mz (by kernel_rfl),mz (by kernel_rfl),mz (by kernel_rfl),mz (by kernel_rfl),mz (by kernel_rfl),mz (by kernel_rfl),⟨378,mi (by kernel_rfl)⟩,⟨939,mi (by kernel_rfl)⟩,⟨824,mi (by kernel_rfl)⟩,⟨937,PySem.W.mg_of KX G (show PySem.W.nsIn (KK w.params) mainGlobals "FIGURES" = some (some (.str "0123456789" 937)) by kernel_rfl)⟩,⟨943,PySem.W.mg_of KX G (show PySem.W.nsIn (KK w.params) mainGlobals "BETWEEN_FORMS" = some (some (.str ", " 943)) by kernel_rfl)⟩,⟨941,PySem.W.mg_of KX G (show PySem.W.nsIn (KK w.params) mainGlobals "BETWEEN_PARTS" = some (some (.str " * " 941)) by kernel_rfl)⟩,⟨477,ma (by kernel_rfl),kx0 _⟩,⟨475,ma (by kernel_rfl),kx1 _⟩,⟨476,ma (by kernel_rfl),kx2 _⟩,⟨552,ma (by kernel_rfl),kx3 _⟩⟩,rfl,fun s v=>.of_eq rfl⟩
end My
open PySem PySem.W PyProof.Rows
set_option maxRecDepth 100000 in
set_option maxHeartbeats 0 in
theorem PySem.Challenge.cw_sumcraft_k58_texts_read_or_refused_holds : PySem.Challenge.rw_sumcraft_k58_texts_read_or_refused.Holds := by
 refine holds_law My.h_well fun said=>?_
 refine holds_open (r:=PySem.Challenge.rw_sumcraft_k58_texts_read_or_refused.row)
  (q:=My.qv) (loose:=[]) (Xt:=My.xt)
  (XP:=XL My.qv []) (Yf:=My.hk.obs) (Ya:=My.hk.val)
  (YP:=My.hk.says) (N:=12570)
  My.left My.hk.of My.hk.keeps
  (fun s e=>xl_of s (Bool.and_eq_true_iff.mp e).1)
  XL.keeps (by rfl) (by rfl) (by rfl)
  (fun s e=>recFacts_of (Bool.and_eq_true_iff.mp e).2)
  (by rfl) said (by decide +kernel)
  My.h_bare ?wit ?go
 case wit=>w_witness2
 case go=>exact My.walk (l:=PySem.Challenge.rw_sumcraft_k58_texts_read_or_refused) rfl rfl (fun w h Y=>kIn_of Y) My.facts
