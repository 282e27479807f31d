import PyProof.Rows.All
import Wide.All
import OpenK.AllK
import Wide.FinOn
import Lean
import PyProof.EqAt
import PyProof.EqKinds
import PyProof.TupleCall
import PySem.Challenge.RW_sumcraft_k56_terms_refused
set_option Elab.async false
set_option linter.all false
set_option maxRecDepth 100000
set_option maxHeartbeats 4000000
namespace My
open PySem PySem.Spec PyProof.Rows PySem.W
def top (i : Nat) : Stmt := PySem.Challenge.pw_sumcraft_k56_terms_refused.main.body.getD i (.Pass ⟨0, 0, 0, 0⟩)
def inCls (s : Stmt) (j : Nat) : Stmt := match s with
 | .ClassDef _ _ _ b _ _ _ _ _ _ _ => b.getD j (.Pass ⟨0, 0, 0, 0⟩)
 | _ => .Pass ⟨0, 0, 0, 0⟩
abbrev s_low_forms : Stmt := top 28
abbrev s_within : Stmt := top 42
abbrev s_check_choose : Stmt := top 43
abbrev s_check_base : Stmt := top 44
abbrev s_piece_of : Stmt := top 45
abbrev s__law_cell_at : Stmt := top 49
abbrev s__law_number : Stmt := top 50
abbrev s__law_divisor : Stmt := top 51
abbrev s__law_mixed : Stmt := top 52
abbrev s__law_forms : Stmt := top 53
abbrev s__law_ratio : Stmt := top 54
abbrev s__law_part : Stmt := top 55
abbrev s__law_parts : Stmt := top 56
abbrev s__law_is : Stmt := top 57
abbrev s__law_beyond : Stmt := top 58
abbrev s__law_fallen : Stmt := top 59
abbrev s__law_no_part : Stmt := top 60
abbrev s__law_refused : Stmt := top 61
abbrev s__law_spoiled : Stmt := top 62
abbrev s_law : Stmt := top 63
abbrev s_Choose___init__ : Stmt := inCls (top 33) 0
abbrev s_Weight___init__ : Stmt := inCls (top 34) 0
abbrev s_Power___init__ : Stmt := inCls (top 35) 0
abbrev s_Growth___init__ : Stmt := inCls (top 36) 0
abbrev s_Term___init__ : Stmt := inCls (top 47) 0
abbrev s_Term_told : Stmt := inCls (top 47) 1
def kE (P : Params) (x : String) (n : Nat) (v : Value) : DictEntry := ⟨PyData.keyHash P (Str.ofString x), .str (Str.ofString x) n, v⟩
def kM (x q : Str) (s : Stmt) (m : Str) (k c : Nat) : Obj := match s with
 | .FunctionDef _ a b _ _ _ sc _ _ _ => ⟨.type "function", none, .func (fnOf x q a b sc .none .none .none (.str m k) none (.ref c) .none), #[]⟩
 | _ => ⟨.none, none, .plain, #[]⟩
def kN (x q : Str) (s : Stmt) : Obj := match s with
 | .FunctionDef _ a b _ _ _ sc _ _ _ => ⟨.none, none, .func { name := x, qualname := q, params := a, body := .stmts b, scope := sc, globals := 0, closure := [], defaults := .none, kwdefaults := .none }, #[]⟩
 | _ => ⟨.none, none, .plain, #[]⟩
def oT (x : Array Value) : Obj := { cls := .type "tuple", data := Data.seq x }
def oF (x : Array Value) : Obj := { cls := .none, data := Data.fields x }
def oK (x : Array Value) : Obj := { cls := .type "code", data := Data.fields x }
def oB (x : Array Value) : Obj := { cls := .type "builtin_function_or_method", data := Data.fields x }
def cp (n : Nat) : Value := .str "/claim/cut.py" n
def ob11 : Obj := oT #[]
def ob12 : Obj := oF #[]
def ob13 : Obj := oK #[.str "<module>" 182, .str "<module>" 183, cp 184, .int 1 0, .int 0 0, .int 0 0, .int 0 0, .int 0 0, .ref 11, .bool false, .int 181 0, .ref 12, .none, .none, .none, .none, .int 185 0, .int 1 0, cp 186]
def ob14 : Obj := { cls := .type "frame", slots := #[some (.ref 13), some (.ref 3), some (.ref 3), none, some (.str "__main__" 164), none, some (.ref 0)] }
def ob3 (P : Params) : Obj := { cls := .type "dict", data := Data.dict #[kE P "__name__" 165 (.str "sumcraft.errors" 187), kE P "__doc__" 166 (.none), kE P "__package__" 167 (.none), kE P "__loader__" 168 (.builtin "__main__.__loader__#opaque"), kE P "__spec__" 169 (.none), kE P "__annotations__" 170 (.ref 6), kE P "__builtins__" 171 (.ref 4), kE P "__file__" 173 (cp 172), kE P "__cached__" 174 (.none), kE P "SumError" 206 (.ref 24), kE P "NoNumber" 222 (.ref 37), kE P "NoRule" 238 (.ref 49), kE P "TooFew" 254 (.ref 61), kE P "NotKept" 279 (.ref 80), kE P "TooGreat" 295 (.ref 92)] 15 }
def ob12' : Obj := oF #[.int 2 0, .int 0 0, .ref 20, .int 4 0, .int 0 0, .ref 33, .int 6 0, .int 0 0, .ref 45, .int 8 0, .int 0 0, .ref 57, .int 10 0, .int 0 0, .ref 69, .int 15 0, .int 0 0, .ref 88]
def ob15 : Obj := oT #[.type "ValueError"]
def ob16 : Obj := oB #[.builtin "type.__prepare__", .type "type"]
def ob17 (P : Params) : Obj := { cls := .type "dict", data := Data.dict #[kE P "__module__" 196 (.str "sumcraft.errors" 187), kE P "__qualname__" 198 (.str "SumError" 197), kE P "__firstlineno__" 200 (.int 2 199), kE P "__static_attributes__" 201 (.ref 22)] 4 }
def ob18 : Obj := oT #[]
def ob19 : Obj := oF #[]
def ob20 : Obj := oK #[.str "SumError" 191, .str "SumError" 192, cp 193, .int 2 0, .int 0 0, .int 0 0, .int 0 0, .int 0 0, .ref 18, .bool false, .int 181 0, .ref 19, .none, .none, .none, .none, .int 194 0, .int 2 0, cp 195]
def ob21 : Obj := { cls := .type "frame", slots := #[some (.ref 20), some (.ref 3), some (.ref 17), none, some (.str "sumcraft.errors" 187), none, some (.ref 0)] }
def ob22 : Obj := oT #[]
def ob23 (P : Params) : Obj := { cls := .type "dict", data := Data.dict #[kE P "__module__" 196 (.str "sumcraft.errors" 187), kE P "__firstlineno__" 200 (.int 2 199), kE P "__static_attributes__" 201 (.ref 22), kE P "__weakref__" 203 (.ref 25), kE P "__doc__" 204 (.none)] 3 }
def ob24 : Obj := { cls := .type "type", data := Data.cls { name := "SumError", bases := [.type "ValueError"], mro := [.ref 24, .type "ValueError", .type "Exception", .type "BaseException", .type "object"], ns := 23, qualname := "SumError", subclasses := [.ref 37, .ref 49, .ref 61, .ref 80, .ref 92] }, slots := #[some (.ref 15), none, some (.str "SumError" 189), some (.str "SumError" 197), some (.builtin "ValueError.__new__"), some (.bool true)] }
def ob25 : Obj := { cls := .type "getset_descriptor", data := Data.fields #[.str "__weakref__" 202, .ref 24, .builtin "ExceptionGroup.__weakref__", .none] }
def ob26 : Obj := { cls := .type "super", data := Data.fields #[.ref 24, .ref 24, .ref 24] }
def ob27 : Obj := oB #[.builtin "object.__init_subclass__", .ref 24]
def ob28 : Obj := oT #[.ref 24]
def ob29 : Obj := oB #[.builtin "type.__prepare__", .type "type"]
def ob30 (P : Params) : Obj := { cls := .type "dict", data := Data.dict #[kE P "__module__" 214 (.str "sumcraft.errors" 187), kE P "__qualname__" 216 (.str "NoNumber" 215), kE P "__firstlineno__" 218 (.int 4 217), kE P "__static_attributes__" 219 (.ref 35)] 4 }
def ob31 : Obj := oT #[]
def ob32 : Obj := oF #[]
def ob33 : Obj := oK #[.str "NoNumber" 209, .str "NoNumber" 210, cp 211, .int 4 0, .int 0 0, .int 0 0, .int 0 0, .int 0 0, .ref 31, .bool false, .int 181 0, .ref 32, .none, .none, .none, .none, .int 212 0, .int 4 0, cp 213]
def ob34 : Obj := { cls := .type "frame", slots := #[some (.ref 33), some (.ref 3), some (.ref 30), none, some (.str "sumcraft.errors" 187), none, some (.ref 0)] }
def ob35 : Obj := oT #[]
def ob36 (P : Params) : Obj := { cls := .type "dict", data := Data.dict #[kE P "__module__" 214 (.str "sumcraft.errors" 187), kE P "__firstlineno__" 218 (.int 4 217), kE P "__static_attributes__" 219 (.ref 35), kE P "__doc__" 220 (.none)] 2 }
def ob37 : Obj := { cls := .type "type", data := Data.cls { name := "NoNumber", bases := [.ref 24], mro := [.ref 37, .ref 24, .type "ValueError", .type "Exception", .type "BaseException", .type "object"], ns := 36, qualname := "NoNumber" }, slots := #[some (.ref 28), none, some (.str "NoNumber" 207), some (.str "NoNumber" 215), some (.builtin "ValueError.__new__"), some (.bool true)] }
def ob38 : Obj := { cls := .type "super", data := Data.fields #[.ref 37, .ref 37, .ref 37] }
def ob39 : Obj := oB #[.builtin "object.__init_subclass__", .ref 37]
def ob40 : Obj := oT #[.ref 24]
def ob41 : Obj := oB #[.builtin "type.__prepare__", .type "type"]
def ob42 (P : Params) : Obj := { cls := .type "dict", data := Data.dict #[kE P "__module__" 230 (.str "sumcraft.errors" 187), kE P "__qualname__" 232 (.str "NoRule" 231), kE P "__firstlineno__" 234 (.int 6 233), kE P "__static_attributes__" 235 (.ref 47)] 4 }
def ob43 : Obj := oT #[]
def ob44 : Obj := oF #[]
def ob45 : Obj := oK #[.str "NoRule" 225, .str "NoRule" 226, cp 227, .int 6 0, .int 0 0, .int 0 0, .int 0 0, .int 0 0, .ref 43, .bool false, .int 181 0, .ref 44, .none, .none, .none, .none, .int 228 0, .int 6 0, cp 229]
def ob46 : Obj := { cls := .type "frame", slots := #[some (.ref 45), some (.ref 3), some (.ref 42), none, some (.str "sumcraft.errors" 187), none, some (.ref 0)] }
def ob47 : Obj := oT #[]
def ob48 (P : Params) : Obj := { cls := .type "dict", data := Data.dict #[kE P "__module__" 230 (.str "sumcraft.errors" 187), kE P "__firstlineno__" 234 (.int 6 233), kE P "__static_attributes__" 235 (.ref 47), kE P "__doc__" 236 (.none)] 2 }
def ob49 : Obj := { cls := .type "type", data := Data.cls { name := "NoRule", bases := [.ref 24], mro := [.ref 49, .ref 24, .type "ValueError", .type "Exception", .type "BaseException", .type "object"], ns := 48, qualname := "NoRule" }, slots := #[some (.ref 40), none, some (.str "NoRule" 223), some (.str "NoRule" 231), some (.builtin "ValueError.__new__"), some (.bool true)] }
def ob50 : Obj := { cls := .type "super", data := Data.fields #[.ref 49, .ref 49, .ref 49] }
def ob51 : Obj := oB #[.builtin "object.__init_subclass__", .ref 49]
def ob52 : Obj := oT #[.ref 24]
def ob53 : Obj := oB #[.builtin "type.__prepare__", .type "type"]
def ob54 (P : Params) : Obj := { cls := .type "dict", data := Data.dict #[kE P "__module__" 246 (.str "sumcraft.errors" 187), kE P "__qualname__" 248 (.str "TooFew" 247), kE P "__firstlineno__" 250 (.int 8 249), kE P "__static_attributes__" 251 (.ref 59)] 4 }
def ob55 : Obj := oT #[]
def ob56 : Obj := oF #[]
def ob57 : Obj := oK #[.str "TooFew" 241, .str "TooFew" 242, cp 243, .int 8 0, .int 0 0, .int 0 0, .int 0 0, .int 0 0, .ref 55, .bool false, .int 181 0, .ref 56, .none, .none, .none, .none, .int 244 0, .int 8 0, cp 245]
def ob58 : Obj := { cls := .type "frame", slots := #[some (.ref 57), some (.ref 3), some (.ref 54), none, some (.str "sumcraft.errors" 187), none, some (.ref 0)] }
def ob59 : Obj := oT #[]
def ob60 (P : Params) : Obj := { cls := .type "dict", data := Data.dict #[kE P "__module__" 246 (.str "sumcraft.errors" 187), kE P "__firstlineno__" 250 (.int 8 249), kE P "__static_attributes__" 251 (.ref 59), kE P "__doc__" 252 (.none)] 2 }
def ob61 : Obj := { cls := .type "type", data := Data.cls { name := "TooFew", bases := [.ref 24], mro := [.ref 61, .ref 24, .type "ValueError", .type "Exception", .type "BaseException", .type "object"], ns := 60, qualname := "TooFew" }, slots := #[some (.ref 52), none, some (.str "TooFew" 239), some (.str "TooFew" 247), some (.builtin "ValueError.__new__"), some (.bool true)] }
def ob62 : Obj := { cls := .type "super", data := Data.fields #[.ref 61, .ref 61, .ref 61] }
def ob63 : Obj := oB #[.builtin "object.__init_subclass__", .ref 61]
def ob64 : Obj := oT #[.ref 24]
def ob65 : Obj := oB #[.builtin "type.__prepare__", .type "type"]
def ob66 (P : Params) : Obj := { cls := .type "dict", data := Data.dict #[kE P "__module__" 262 (.str "sumcraft.errors" 187), kE P "__qualname__" 264 (.str "NotKept" 263), kE P "__firstlineno__" 266 (.int 10 265), kE P "__init__" 274 (.ref 77), kE P "__static_attributes__" 276 (.ref 78)] 5 }
def ob67 : Obj := oT #[]
def ob68 : Obj := oF #[.int 12 0, .int 4 0, .ref 76]
def ob69 : Obj := oK #[.str "NotKept" 257, .str "NotKept" 258, cp 259, .int 10 0, .int 0 0, .int 0 0, .int 0 0, .int 0 0, .ref 67, .bool false, .int 181 0, .ref 68, .none, .none, .none, .none, .int 260 0, .int 10 0, cp 261]
def ob70 : Obj := { cls := .type "frame", slots := #[some (.ref 69), some (.ref 3), some (.ref 66), none, some (.str "sumcraft.errors" 187), none, some (.ref 0)] }
def ob71 : Obj := oT #[]
def ob72 : Obj := oF #[]
def ob73 : Obj := oT #[.str "self" 270, .str "place" 271]
def ob74 : Obj := oT #[]
def ob75 : Obj := kN "__init__" "NotKept.__init__" (inCls (top 5) 0)
def ob76 : Obj := oK #[.str "__init__" 267, .str "NotKept.__init__" 268, cp 269, .int 12 0, .int 2 0, .int 0 0, .int 0 0, .int 3 0, .ref 71, .bool true, .int 181 0, .ref 72, .none, .ref 73, .ref 74, .ref 75, .int 272 0, .int 12 0, cp 273]
def ob77 : Obj := kM "__init__" "NotKept.__init__" (inCls (top 5) 0) "sumcraft.errors" 187 76
def ob78 : Obj := oT #[.str "place" 275]
def ob79 (P : Params) : Obj := { cls := .type "dict", data := Data.dict #[kE P "__module__" 262 (.str "sumcraft.errors" 187), kE P "__firstlineno__" 266 (.int 10 265), kE P "__init__" 274 (.ref 77), kE P "__static_attributes__" 276 (.ref 78), kE P "__doc__" 277 (.none)] 2 }
def ob80 : Obj := { cls := .type "type", data := Data.cls { name := "NotKept", bases := [.ref 24], mro := [.ref 80, .ref 24, .type "ValueError", .type "Exception", .type "BaseException", .type "object"], ns := 79, qualname := "NotKept" }, slots := #[some (.ref 64), none, some (.str "NotKept" 255), some (.str "NotKept" 263), some (.builtin "ValueError.__new__"), some (.bool true)] }
def ob81 : Obj := { cls := .type "super", data := Data.fields #[.ref 80, .ref 80, .ref 80] }
def ob82 : Obj := oB #[.builtin "object.__init_subclass__", .ref 80]
def ob83 : Obj := oT #[.ref 24]
def ob84 : Obj := oB #[.builtin "type.__prepare__", .type "type"]
def ob85 (P : Params) : Obj := { cls := .type "dict", data := Data.dict #[kE P "__module__" 287 (.str "sumcraft.errors" 187), kE P "__qualname__" 289 (.str "TooGreat" 288), kE P "__firstlineno__" 291 (.int 15 290), kE P "__static_attributes__" 292 (.ref 90)] 4 }
def ob86 : Obj := oT #[]
def ob87 : Obj := oF #[]
def ob88 : Obj := oK #[.str "TooGreat" 282, .str "TooGreat" 283, cp 284, .int 15 0, .int 0 0, .int 0 0, .int 0 0, .int 0 0, .ref 86, .bool false, .int 181 0, .ref 87, .none, .none, .none, .none, .int 285 0, .int 15 0, cp 286]
def ob89 : Obj := { cls := .type "frame", slots := #[some (.ref 88), some (.ref 3), some (.ref 85), none, some (.str "sumcraft.errors" 187), none, some (.ref 0)] }
def ob90 : Obj := oT #[]
def ob91 (P : Params) : Obj := { cls := .type "dict", data := Data.dict #[kE P "__module__" 287 (.str "sumcraft.errors" 187), kE P "__firstlineno__" 291 (.int 15 290), kE P "__static_attributes__" 292 (.ref 90), kE P "__doc__" 293 (.none)] 2 }
def ob92 : Obj := { cls := .type "type", data := Data.cls { name := "TooGreat", bases := [.ref 24], mro := [.ref 92, .ref 24, .type "ValueError", .type "Exception", .type "BaseException", .type "object"], ns := 91, qualname := "TooGreat" }, slots := #[some (.ref 83), none, some (.str "TooGreat" 280), some (.str "TooGreat" 288), some (.builtin "ValueError.__new__"), some (.bool true)] }
def ob93 : Obj := { cls := .type "super", data := Data.fields #[.ref 92, .ref 92, .ref 92] }
def ob94 : Obj := oB #[.builtin "object.__init_subclass__", .ref 92]
def ob3' (P : Params) : Obj := { cls := .type "dict", data := Data.dict #[kE P "__name__" 165 (.str "sumcraft.ratios" 414), kE P "__doc__" 166 (.none), kE P "__package__" 167 (.none), kE P "__loader__" 168 (.builtin "__main__.__loader__#opaque"), kE P "__spec__" 169 (.none), kE P "__annotations__" 170 (.ref 6), kE P "__builtins__" 171 (.ref 4), kE P "__file__" 173 (cp 172), kE P "__cached__" 174 (.none), kE P "SumError" 206 (.ref 24), kE P "NoNumber" 222 (.ref 37), kE P "NoRule" 238 (.ref 49), kE P "TooFew" 254 (.ref 61), kE P "NotKept" 279 (.ref 80), kE P "TooGreat" 295 (.ref 92), kE P "NoPlace" 311 (.ref 104), kE P "NoTerm" 327 (.ref 116), kE P "NoEnds" 343 (.ref 128), kE P "NoLine" 359 (.ref 140), kE P "NoName" 375 (.ref 152), kE P "bare" 383 (.ref 159), kE P "pair_times" 397 (.ref 166), kE P "pair_of_form" 404 (.ref 173), kE P "pair_product" 413 (.ref 180)] 24 }
def ob12'' : Obj := oF #[.int 2 0, .int 0 0, .ref 20, .int 4 0, .int 0 0, .ref 33, .int 6 0, .int 0 0, .ref 45, .int 8 0, .int 0 0, .ref 57, .int 10 0, .int 0 0, .ref 69, .int 15 0, .int 0 0, .ref 88, .int 17 0, .int 0 0, .ref 100, .int 19 0, .int 0 0, .ref 112, .int 21 0, .int 0 0, .ref 124, .int 23 0, .int 0 0, .ref 136, .int 25 0, .int 0 0, .ref 148, .int 28 0, .int 0 0, .ref 158, .int 30 0, .int 0 0, .ref 165, .int 37 0, .int 0 0, .ref 172, .int 39 0, .int 0 0, .ref 179]
def ob24' : Obj := { cls := .type "type", data := Data.cls { name := "SumError", bases := [.type "ValueError"], mro := [.ref 24, .type "ValueError", .type "Exception", .type "BaseException", .type "object"], ns := 23, qualname := "SumError", subclasses := [.ref 37, .ref 49, .ref 61, .ref 80, .ref 92, .ref 104, .ref 116, .ref 128, .ref 140, .ref 152] }, slots := #[some (.ref 15), none, some (.str "SumError" 189), some (.str "SumError" 197), some (.builtin "ValueError.__new__"), some (.bool true)] }
def ob95 : Obj := oT #[.ref 24]
def ob96 : Obj := oB #[.builtin "type.__prepare__", .type "type"]
def ob97 (P : Params) : Obj := { cls := .type "dict", data := Data.dict #[kE P "__module__" 303 (.str "sumcraft.errors" 187), kE P "__qualname__" 305 (.str "NoPlace" 304), kE P "__firstlineno__" 307 (.int 17 306), kE P "__static_attributes__" 308 (.ref 102)] 4 }
def ob98 : Obj := oT #[]
def ob99 : Obj := oF #[]
def ob100 : Obj := oK #[.str "NoPlace" 298, .str "NoPlace" 299, cp 300, .int 17 0, .int 0 0, .int 0 0, .int 0 0, .int 0 0, .ref 98, .bool false, .int 181 0, .ref 99, .none, .none, .none, .none, .int 301 0, .int 17 0, cp 302]
def ob101 : Obj := { cls := .type "frame", slots := #[some (.ref 100), some (.ref 3), some (.ref 97), none, some (.str "sumcraft.errors" 187), none, some (.ref 0)] }
def ob102 : Obj := oT #[]
def ob103 (P : Params) : Obj := { cls := .type "dict", data := Data.dict #[kE P "__module__" 303 (.str "sumcraft.errors" 187), kE P "__firstlineno__" 307 (.int 17 306), kE P "__static_attributes__" 308 (.ref 102), kE P "__doc__" 309 (.none)] 2 }
def ob104 : Obj := { cls := .type "type", data := Data.cls { name := "NoPlace", bases := [.ref 24], mro := [.ref 104, .ref 24, .type "ValueError", .type "Exception", .type "BaseException", .type "object"], ns := 103, qualname := "NoPlace" }, slots := #[some (.ref 95), none, some (.str "NoPlace" 296), some (.str "NoPlace" 304), some (.builtin "ValueError.__new__"), some (.bool true)] }
def ob105 : Obj := { cls := .type "super", data := Data.fields #[.ref 104, .ref 104, .ref 104] }
def ob106 : Obj := oB #[.builtin "object.__init_subclass__", .ref 104]
def ob107 : Obj := oT #[.ref 24]
def ob108 : Obj := oB #[.builtin "type.__prepare__", .type "type"]
def ob109 (P : Params) : Obj := { cls := .type "dict", data := Data.dict #[kE P "__module__" 319 (.str "sumcraft.errors" 187), kE P "__qualname__" 321 (.str "NoTerm" 320), kE P "__firstlineno__" 323 (.int 19 322), kE P "__static_attributes__" 324 (.ref 114)] 4 }
def ob110 : Obj := oT #[]
def ob111 : Obj := oF #[]
def ob112 : Obj := oK #[.str "NoTerm" 314, .str "NoTerm" 315, cp 316, .int 19 0, .int 0 0, .int 0 0, .int 0 0, .int 0 0, .ref 110, .bool false, .int 181 0, .ref 111, .none, .none, .none, .none, .int 317 0, .int 19 0, cp 318]
def ob113 : Obj := { cls := .type "frame", slots := #[some (.ref 112), some (.ref 3), some (.ref 109), none, some (.str "sumcraft.errors" 187), none, some (.ref 0)] }
def ob114 : Obj := oT #[]
def ob115 (P : Params) : Obj := { cls := .type "dict", data := Data.dict #[kE P "__module__" 319 (.str "sumcraft.errors" 187), kE P "__firstlineno__" 323 (.int 19 322), kE P "__static_attributes__" 324 (.ref 114), kE P "__doc__" 325 (.none)] 2 }
def ob116 : Obj := { cls := .type "type", data := Data.cls { name := "NoTerm", bases := [.ref 24], mro := [.ref 116, .ref 24, .type "ValueError", .type "Exception", .type "BaseException", .type "object"], ns := 115, qualname := "NoTerm" }, slots := #[some (.ref 107), none, some (.str "NoTerm" 312), some (.str "NoTerm" 320), some (.builtin "ValueError.__new__"), some (.bool true)] }
def ob117 : Obj := { cls := .type "super", data := Data.fields #[.ref 116, .ref 116, .ref 116] }
def ob118 : Obj := oB #[.builtin "object.__init_subclass__", .ref 116]
def ob119 : Obj := oT #[.ref 24]
def ob120 : Obj := oB #[.builtin "type.__prepare__", .type "type"]
def ob121 (P : Params) : Obj := { cls := .type "dict", data := Data.dict #[kE P "__module__" 335 (.str "sumcraft.errors" 187), kE P "__qualname__" 337 (.str "NoEnds" 336), kE P "__firstlineno__" 339 (.int 21 338), kE P "__static_attributes__" 340 (.ref 126)] 4 }
def ob122 : Obj := oT #[]
def ob123 : Obj := oF #[]
def ob124 : Obj := oK #[.str "NoEnds" 330, .str "NoEnds" 331, cp 332, .int 21 0, .int 0 0, .int 0 0, .int 0 0, .int 0 0, .ref 122, .bool false, .int 181 0, .ref 123, .none, .none, .none, .none, .int 333 0, .int 21 0, cp 334]
def ob125 : Obj := { cls := .type "frame", slots := #[some (.ref 124), some (.ref 3), some (.ref 121), none, some (.str "sumcraft.errors" 187), none, some (.ref 0)] }
def ob126 : Obj := oT #[]
def ob127 (P : Params) : Obj := { cls := .type "dict", data := Data.dict #[kE P "__module__" 335 (.str "sumcraft.errors" 187), kE P "__firstlineno__" 339 (.int 21 338), kE P "__static_attributes__" 340 (.ref 126), kE P "__doc__" 341 (.none)] 2 }
def ob128 : Obj := { cls := .type "type", data := Data.cls { name := "NoEnds", bases := [.ref 24], mro := [.ref 128, .ref 24, .type "ValueError", .type "Exception", .type "BaseException", .type "object"], ns := 127, qualname := "NoEnds" }, slots := #[some (.ref 119), none, some (.str "NoEnds" 328), some (.str "NoEnds" 336), some (.builtin "ValueError.__new__"), some (.bool true)] }
def ob129 : Obj := { cls := .type "super", data := Data.fields #[.ref 128, .ref 128, .ref 128] }
def ob130 : Obj := oB #[.builtin "object.__init_subclass__", .ref 128]
def ob131 : Obj := oT #[.ref 24]
def ob132 : Obj := oB #[.builtin "type.__prepare__", .type "type"]
def ob133 (P : Params) : Obj := { cls := .type "dict", data := Data.dict #[kE P "__module__" 351 (.str "sumcraft.errors" 187), kE P "__qualname__" 353 (.str "NoLine" 352), kE P "__firstlineno__" 355 (.int 23 354), kE P "__static_attributes__" 356 (.ref 138)] 4 }
def ob134 : Obj := oT #[]
def ob135 : Obj := oF #[]
def ob136 : Obj := oK #[.str "NoLine" 346, .str "NoLine" 347, cp 348, .int 23 0, .int 0 0, .int 0 0, .int 0 0, .int 0 0, .ref 134, .bool false, .int 181 0, .ref 135, .none, .none, .none, .none, .int 349 0, .int 23 0, cp 350]
def ob137 : Obj := { cls := .type "frame", slots := #[some (.ref 136), some (.ref 3), some (.ref 133), none, some (.str "sumcraft.errors" 187), none, some (.ref 0)] }
def ob138 : Obj := oT #[]
def ob139 (P : Params) : Obj := { cls := .type "dict", data := Data.dict #[kE P "__module__" 351 (.str "sumcraft.errors" 187), kE P "__firstlineno__" 355 (.int 23 354), kE P "__static_attributes__" 356 (.ref 138), kE P "__doc__" 357 (.none)] 2 }
def ob140 : Obj := { cls := .type "type", data := Data.cls { name := "NoLine", bases := [.ref 24], mro := [.ref 140, .ref 24, .type "ValueError", .type "Exception", .type "BaseException", .type "object"], ns := 139, qualname := "NoLine" }, slots := #[some (.ref 131), none, some (.str "NoLine" 344), some (.str "NoLine" 352), some (.builtin "ValueError.__new__"), some (.bool true)] }
def ob141 : Obj := { cls := .type "super", data := Data.fields #[.ref 140, .ref 140, .ref 140] }
def ob142 : Obj := oB #[.builtin "object.__init_subclass__", .ref 140]
def ob143 : Obj := oT #[.ref 24]
def ob144 : Obj := oB #[.builtin "type.__prepare__", .type "type"]
def ob145 (P : Params) : Obj := { cls := .type "dict", data := Data.dict #[kE P "__module__" 367 (.str "sumcraft.errors" 187), kE P "__qualname__" 369 (.str "NoName" 368), kE P "__firstlineno__" 371 (.int 25 370), kE P "__static_attributes__" 372 (.ref 150)] 4 }
def ob146 : Obj := oT #[]
def ob147 : Obj := oF #[]
def ob148 : Obj := oK #[.str "NoName" 362, .str "NoName" 363, cp 364, .int 25 0, .int 0 0, .int 0 0, .int 0 0, .int 0 0, .ref 146, .bool false, .int 181 0, .ref 147, .none, .none, .none, .none, .int 365 0, .int 25 0, cp 366]
def ob149 : Obj := { cls := .type "frame", slots := #[some (.ref 148), some (.ref 3), some (.ref 145), none, some (.str "sumcraft.errors" 187), none, some (.ref 0)] }
def ob150 : Obj := oT #[]
def ob151 (P : Params) : Obj := { cls := .type "dict", data := Data.dict #[kE P "__module__" 367 (.str "sumcraft.errors" 187), kE P "__firstlineno__" 371 (.int 25 370), kE P "__static_attributes__" 372 (.ref 150), kE P "__doc__" 373 (.none)] 2 }
def ob152 : Obj := { cls := .type "type", data := Data.cls { name := "NoName", bases := [.ref 24], mro := [.ref 152, .ref 24, .type "ValueError", .type "Exception", .type "BaseException", .type "object"], ns := 151, qualname := "NoName" }, slots := #[some (.ref 143), none, some (.str "NoName" 360), some (.str "NoName" 368), some (.builtin "ValueError.__new__"), some (.bool true)] }
def ob153 : Obj := { cls := .type "super", data := Data.fields #[.ref 152, .ref 152, .ref 152] }
def ob154 : Obj := oB #[.builtin "object.__init_subclass__", .ref 152]
def ob155 : Obj := oT #[]
def ob156 : Obj := oF #[]
def ob157 : Obj := kN "bare" "bare" (top 13)
def ob158 : Obj := oK #[.str "bare" 378, .str "bare" 379, cp 380, .int 28 0, .int 1 0, .int 0 0, .int 0 0, .int 3 0, .ref 155, .bool true, .int 181 0, .ref 156, .none, .none, .none, .ref 157, .int 381 0, .int 28 0, cp 382]
def ob159 : Obj := kM "bare" "bare" (top 13) "sumcraft.pairs" 376 158
def ob160 : Obj := oT #[]
def ob161 : Obj := oF #[]
def ob162 : Obj := oT #[.str "one" 387, .str "other" 388, .str "answer" 389, .str "low" 390, .str "number" 391, .str "high" 392, .str "factor" 393, .str "powers" 394]
def ob163 : Obj := oT #[]
def ob164 : Obj := kN "pair_times" "pair_times" (top 14)
def ob165 : Obj := oK #[.str "pair_times" 384, .str "pair_times" 385, cp 386, .int 30 0, .int 2 0, .int 0 0, .int 0 0, .int 3 0, .ref 160, .bool true, .int 181 0, .ref 161, .none, .ref 162, .ref 163, .ref 164, .int 395 0, .int 30 0, cp 396]
def ob166 : Obj := kM "pair_times" "pair_times" (top 14) "sumcraft.pairs" 376 165
def ob167 : Obj := oT #[]
def ob168 : Obj := oF #[]
def ob169 : Obj := oT #[.str "form" 401]
def ob170 : Obj := oT #[]
def ob171 : Obj := kN "pair_of_form" "pair_of_form" (top 15)
def ob172 : Obj := oK #[.str "pair_of_form" 398, .str "pair_of_form" 399, cp 400, .int 37 0, .int 1 0, .int 0 0, .int 0 0, .int 3 0, .ref 167, .bool true, .int 181 0, .ref 168, .none, .ref 169, .ref 170, .ref 171, .int 402 0, .int 37 0, cp 403]
def ob173 : Obj := kM "pair_of_form" "pair_of_form" (top 15) "sumcraft.pairs" 376 172
def ob174 : Obj := oT #[]
def ob175 : Obj := oF #[]
def ob176 : Obj := oT #[.str "pairs" 408, .str "answer" 409, .str "pair" 410]
def ob177 : Obj := oT #[]
def ob178 : Obj := kN "pair_product" "pair_product" (top 16)
def ob179 : Obj := oK #[.str "pair_product" 405, .str "pair_product" 406, cp 407, .int 39 0, .int 1 0, .int 0 0, .int 0 0, .int 3 0, .ref 174, .bool true, .int 181 0, .ref 175, .none, .ref 176, .ref 177, .ref 178, .int 411 0, .int 39 0, cp 412]
def ob180 : Obj := kM "pair_product" "pair_product" (top 16) "sumcraft.pairs" 376 179
def ob3'' (P : Params) : Obj := { cls := .type "dict", data := Data.dict #[kE P "__name__" 165 (.str "sumcraft.parts" 458), kE P "__doc__" 166 (.none), kE P "__package__" 167 (.none), kE P "__loader__" 168 (.builtin "__main__.__loader__#opaque"), kE P "__spec__" 169 (.none), kE P "__annotations__" 170 (.ref 6), kE P "__builtins__" 171 (.ref 4), kE P "__file__" 173 (cp 172), kE P "__cached__" 174 (.none), kE P "SumError" 206 (.ref 24), kE P "NoNumber" 222 (.ref 37), kE P "NoRule" 238 (.ref 49), kE P "TooFew" 254 (.ref 61), kE P "NotKept" 279 (.ref 80), kE P "TooGreat" 295 (.ref 92), kE P "NoPlace" 311 (.ref 104), kE P "NoTerm" 327 (.ref 116), kE P "NoEnds" 343 (.ref 128), kE P "NoLine" 359 (.ref 140), kE P "NoName" 375 (.ref 152), kE P "bare" 383 (.ref 159), kE P "pair_times" 397 (.ref 166), kE P "pair_of_form" 404 (.ref 173), kE P "pair_product" 413 (.ref 180), kE P "LONG" 417 (.int 4000 416), kE P "WINDOW" 419 (.int 300 418), kE P "shortened" 436 (.ref 187), kE P "divisor" 448 (.ref 194), kE P "ratio" 457 (.ref 201), kE P "FEW" 461 (.int 16 460), kE P "form_value" 470 (.ref 208), kE P "raised" 478 (.ref 215), kE P "raised_from" 484 (.ref 220), kE P "low_forms" 492 (.ref 227), kE P "power_of" 502 (.ref 234), kE P "run_product" 513 (.ref 241), kE P "choices" 522 (.ref 248), kE P "Part" 586 (.ref 293), kE P "Choose" 665 (.ref 352), kE P "Weight" 708 (.ref 385)] 40 }
def ob12''' : Obj := oF #[.int 2 0, .int 0 0, .ref 20, .int 4 0, .int 0 0, .ref 33, .int 6 0, .int 0 0, .ref 45, .int 8 0, .int 0 0, .ref 57, .int 10 0, .int 0 0, .ref 69, .int 15 0, .int 0 0, .ref 88, .int 17 0, .int 0 0, .ref 100, .int 19 0, .int 0 0, .ref 112, .int 21 0, .int 0 0, .ref 124, .int 23 0, .int 0 0, .ref 136, .int 25 0, .int 0 0, .ref 148, .int 28 0, .int 0 0, .ref 158, .int 30 0, .int 0 0, .ref 165, .int 37 0, .int 0 0, .ref 172, .int 39 0, .int 0 0, .ref 179, .int 47 0, .int 0 0, .ref 186, .int 63 0, .int 0 0, .ref 193, .int 75 0, .int 0 0, .ref 200, .int 84 0, .int 0 0, .ref 207, .int 86 0, .int 0 0, .ref 214, .int 88 0, .int 0 0, .ref 219, .int 90 0, .int 0 0, .ref 226, .int 92 0, .int 0 0, .ref 233, .int 97 0, .int 0 0, .ref 240, .int 105 0, .int 0 0, .ref 247, .int 108 0, .int 0 0, .ref 254, .int 124 0, .int 0 0, .ref 303, .int 160 0, .int 0 0, .ref 360]
def ob181 : Obj := oT #[]
def ob182 : Obj := oF #[]
def ob183 : Obj := oT #[.str "big" 423, .str "small" 424, .str "cut" 425, .str "ahead" 426, .str "behind" 427, .str "half" 428, .str "upper" 429, .str "lower" 430, .str "times" 431, .str "rest" 432, .str "further" 433]
def ob184 : Obj := oT #[]
def ob185 : Obj := kN "shortened" "shortened" (top 20)
def ob186 : Obj := oK #[.str "shortened" 420, .str "shortened" 421, cp 422, .int 47 0, .int 2 0, .int 0 0, .int 0 0, .int 3 0, .ref 181, .bool true, .int 181 0, .ref 182, .none, .ref 183, .ref 184, .ref 185, .int 434 0, .int 47 0, cp 435]
def ob187 : Obj := kM "shortened" "shortened" (top 20) "sumcraft.ratios" 414 186
def ob188 : Obj := oT #[]
def ob189 : Obj := oF #[]
def ob190 : Obj := oT #[.str "one" 440, .str "other" 441, .str "big" 442, .str "small" 443, .str "pair" 444, .str "rest" 445]
def ob191 : Obj := oT #[]
def ob192 : Obj := kN "divisor" "divisor" (top 21)
def ob193 : Obj := oK #[.str "divisor" 437, .str "divisor" 438, cp 439, .int 63 0, .int 2 0, .int 0 0, .int 0 0, .int 3 0, .ref 188, .bool true, .int 181 0, .ref 189, .none, .ref 190, .ref 191, .ref 192, .int 446 0, .int 63 0, cp 447]
def ob194 : Obj := kM "divisor" "divisor" (top 21) "sumcraft.ratios" 414 193
def ob195 : Obj := oT #[]
def ob196 : Obj := oF #[]
def ob197 : Obj := oT #[.str "top" 452, .str "bottom" 453, .str "shared" 454]
def ob198 : Obj := oT #[]
def ob199 : Obj := kN "ratio" "ratio" (top 22)
def ob200 : Obj := oK #[.str "ratio" 449, .str "ratio" 450, cp 451, .int 75 0, .int 2 0, .int 0 0, .int 0 0, .int 3 0, .ref 195, .bool true, .int 181 0, .ref 196, .none, .ref 197, .ref 198, .ref 199, .int 455 0, .int 75 0, cp 456]
def ob201 : Obj := kM "ratio" "ratio" (top 22) "sumcraft.ratios" 414 200
def ob202 : Obj := oT #[]
def ob203 : Obj := oF #[]
def ob204 : Obj := oT #[.str "form" 465, .str "n" 466, .str "k" 467]
def ob205 : Obj := oT #[]
def ob206 : Obj := kN "form_value" "form_value" (top 25)
def ob207 : Obj := oK #[.str "form_value" 462, .str "form_value" 463, cp 464, .int 84 0, .int 3 0, .int 0 0, .int 0 0, .int 3 0, .ref 202, .bool true, .int 181 0, .ref 203, .none, .ref 204, .ref 205, .ref 206, .int 468 0, .int 84 0, cp 469]
def ob208 : Obj := kM "form_value" "form_value" (top 25) "sumcraft.parts" 458 207
def ob209 : Obj := oT #[]
def ob210 : Obj := oF #[]
def ob211 : Obj := oT #[.str "form" 474, .str "by" 475]
def ob212 : Obj := oT #[]
def ob213 : Obj := kN "raised" "raised" (top 26)
def ob214 : Obj := oK #[.str "raised" 471, .str "raised" 472, cp 473, .int 86 0, .int 2 0, .int 0 0, .int 0 0, .int 3 0, .ref 209, .bool true, .int 181 0, .ref 210, .none, .ref 211, .ref 212, .ref 213, .int 476 0, .int 86 0, cp 477]
def ob215 : Obj := kM "raised" "raised" (top 26) "sumcraft.parts" 458 214
def ob216 : Obj := oT #[]
def ob217 : Obj := oF #[]
def ob218 : Obj := kN "raised_from" "raised_from" (top 27)
def ob219 : Obj := oK #[.str "raised_from" 479, .str "raised_from" 480, cp 481, .int 88 0, .int 3 0, .int 0 0, .int 0 0, .int 3 0, .ref 216, .bool true, .int 181 0, .ref 217, .none, .none, .none, .ref 218, .int 482 0, .int 88 0, cp 483]
def ob220 : Obj := kM "raised_from" "raised_from" (top 27) "sumcraft.parts" 458 219
def ob221 : Obj := oT #[]
def ob222 : Obj := oF #[]
def ob223 : Obj := oT #[.str "upper" 488, .str "lower" 489]
def ob224 : Obj := oT #[]
def ob225 : Obj := kN "low_forms" "low_forms" (top 28)
def ob226 : Obj := oK #[.str "low_forms" 485, .str "low_forms" 486, cp 487, .int 90 0, .int 2 0, .int 0 0, .int 0 0, .int 3 0, .ref 221, .bool true, .int 181 0, .ref 222, .none, .ref 223, .ref 224, .ref 225, .int 490 0, .int 90 0, cp 491]
def ob227 : Obj := kM "low_forms" "low_forms" (top 28) "sumcraft.parts" 458 226
def ob228 : Obj := oT #[]
def ob229 : Obj := oF #[]
def ob230 : Obj := oT #[.str "number" 496, .str "exponent" 497, .str "answer" 498, .str "step" 499]
def ob231 : Obj := oT #[]
def ob232 : Obj := kN "power_of" "power_of" (top 29)
def ob233 : Obj := oK #[.str "power_of" 493, .str "power_of" 494, cp 495, .int 92 0, .int 2 0, .int 0 0, .int 0 0, .int 3 0, .ref 228, .bool true, .int 181 0, .ref 229, .none, .ref 230, .ref 231, .ref 232, .int 500 0, .int 92 0, cp 501]
def ob234 : Obj := kM "power_of" "power_of" (top 29) "sumcraft.parts" 458 233
def ob235 : Obj := oT #[]
def ob236 : Obj := oF #[]
def ob237 : Obj := oT #[.str "low" 506, .str "high" 507, .str "answer" 508, .str "number" 509, .str "middle" 510]
def ob238 : Obj := oT #[]
def ob239 : Obj := kN "run_product" "run_product" (top 30)
def ob240 : Obj := oK #[.str "run_product" 503, .str "run_product" 504, cp 505, .int 97 0, .int 2 0, .int 0 0, .int 0 0, .int 3 0, .ref 235, .bool true, .int 181 0, .ref 236, .none, .ref 237, .ref 238, .ref 239, .int 511 0, .int 97 0, cp 512]
def ob241 : Obj := kM "run_product" "run_product" (top 30) "sumcraft.parts" 458 240
def ob242 : Obj := oT #[]
def ob243 : Obj := oF #[]
def ob244 : Obj := oT #[.str "one" 517, .str "other" 518, .str "few" 519]
def ob245 : Obj := oT #[]
def ob246 : Obj := kN "choices" "choices" (top 31)
def ob247 : Obj := oK #[.str "choices" 514, .str "choices" 515, cp 516, .int 105 0, .int 2 0, .int 0 0, .int 0 0, .int 3 0, .ref 242, .bool true, .int 181 0, .ref 243, .none, .ref 244, .ref 245, .ref 246, .int 520 0, .int 105 0, cp 521]
def ob248 : Obj := kM "choices" "choices" (top 31) "sumcraft.parts" 458 247
def ob249 : Obj := oT #[]
def ob250 : Obj := oB #[.builtin "type.__prepare__", .type "type"]
def ob251 (P : Params) : Obj := { cls := .type "dict", data := Data.dict #[kE P "__module__" 530 (.str "sumcraft.parts" 458), kE P "__qualname__" 532 (.str "Part" 531), kE P "__firstlineno__" 534 (.int 108 533), kE P "worth" 543 (.ref 262), kE P "step" 552 (.ref 269), kE P "up" 560 (.ref 276), kE P "down" 568 (.ref 283), kE P "floor" 578 (.ref 290), kE P "__static_attributes__" 579 (.ref 291)] 9 }
def ob252 : Obj := oT #[]
def ob253 : Obj := oF #[.int 110 0, .int 4 0, .ref 261, .int 113 0, .int 4 0, .ref 268, .int 116 0, .int 4 0, .ref 275, .int 119 0, .int 4 0, .ref 282, .int 122 0, .int 4 0, .ref 289]
def ob254 : Obj := oK #[.str "Part" 525, .str "Part" 526, cp 527, .int 108 0, .int 0 0, .int 0 0, .int 0 0, .int 0 0, .ref 252, .bool false, .int 181 0, .ref 253, .none, .none, .none, .none, .int 528 0, .int 108 0, cp 529]
def ob255 : Obj := { cls := .type "frame", slots := #[some (.ref 254), some (.ref 3), some (.ref 251), none, some (.str "sumcraft.parts" 458), none, some (.ref 0)] }
def ob256 : Obj := oT #[]
def ob257 : Obj := oF #[]
def ob258 : Obj := oT #[.str "self" 538, .str "n" 539, .str "k" 540]
def ob259 : Obj := oT #[]
def ob260 : Obj := kN "worth" "Part.worth" (inCls (top 32) 0)
def ob261 : Obj := oK #[.str "worth" 535, .str "Part.worth" 536, cp 537, .int 110 0, .int 3 0, .int 0 0, .int 0 0, .int 3 0, .ref 256, .bool true, .int 181 0, .ref 257, .none, .ref 258, .ref 259, .ref 260, .int 541 0, .int 110 0, cp 542]
def ob262 : Obj := kM "worth" "Part.worth" (inCls (top 32) 0) "sumcraft.parts" 458 261
def ob263 : Obj := oT #[]
def ob264 : Obj := oF #[]
def ob265 : Obj := oT #[.str "self" 547, .str "i" 548, .str "far" 549]
def ob266 : Obj := oT #[]
def ob267 : Obj := kN "step" "Part.step" (inCls (top 32) 1)
def ob268 : Obj := oK #[.str "step" 544, .str "Part.step" 545, cp 546, .int 113 0, .int 3 0, .int 0 0, .int 0 0, .int 3 0, .ref 263, .bool true, .int 181 0, .ref 264, .none, .ref 265, .ref 266, .ref 267, .int 550 0, .int 113 0, cp 551]
def ob269 : Obj := kM "step" "Part.step" (inCls (top 32) 1) "sumcraft.parts" 458 268
def ob270 : Obj := oT #[]
def ob271 : Obj := oF #[]
def ob272 : Obj := oT #[.str "self" 556, .str "far" 557]
def ob273 : Obj := oT #[]
def ob274 : Obj := kN "up" "Part.up" (inCls (top 32) 2)
def ob275 : Obj := oK #[.str "up" 553, .str "Part.up" 554, cp 555, .int 116 0, .int 2 0, .int 0 0, .int 0 0, .int 3 0, .ref 270, .bool true, .int 181 0, .ref 271, .none, .ref 272, .ref 273, .ref 274, .int 558 0, .int 116 0, cp 559]
def ob276 : Obj := kM "up" "Part.up" (inCls (top 32) 2) "sumcraft.parts" 458 275
def ob277 : Obj := oT #[]
def ob278 : Obj := oF #[]
def ob279 : Obj := oT #[.str "self" 564, .str "far" 565]
def ob280 : Obj := oT #[]
def ob281 : Obj := kN "down" "Part.down" (inCls (top 32) 3)
def ob282 : Obj := oK #[.str "down" 561, .str "Part.down" 562, cp 563, .int 119 0, .int 2 0, .int 0 0, .int 0 0, .int 3 0, .ref 277, .bool true, .int 181 0, .ref 278, .none, .ref 279, .ref 280, .ref 281, .int 566 0, .int 119 0, cp 567]
def ob283 : Obj := kM "down" "Part.down" (inCls (top 32) 3) "sumcraft.parts" 458 282
def ob284 : Obj := oT #[]
def ob285 : Obj := oF #[]
def ob286 : Obj := oT #[.str "self" 572, .str "n" 573, .str "k" 574, .str "far" 575]
def ob287 : Obj := oT #[]
def ob288 : Obj := kN "floor" "Part.floor" (inCls (top 32) 4)
def ob289 : Obj := oK #[.str "floor" 569, .str "Part.floor" 570, cp 571, .int 122 0, .int 4 0, .int 0 0, .int 0 0, .int 3 0, .ref 284, .bool true, .int 181 0, .ref 285, .none, .ref 286, .ref 287, .ref 288, .int 576 0, .int 122 0, cp 577]
def ob290 : Obj := kM "floor" "Part.floor" (inCls (top 32) 4) "sumcraft.parts" 458 289
def ob291 : Obj := oT #[]
def ob292 (P : Params) : Obj := { cls := .type "dict", data := Data.dict #[kE P "__module__" 530 (.str "sumcraft.parts" 458), kE P "__firstlineno__" 534 (.int 108 533), kE P "worth" 543 (.ref 262), kE P "step" 552 (.ref 269), kE P "up" 560 (.ref 276), kE P "down" 568 (.ref 283), kE P "floor" 578 (.ref 290), kE P "__static_attributes__" 579 (.ref 291), kE P "__dict__" 581 (.ref 294), kE P "__weakref__" 583 (.ref 295), kE P "__doc__" 584 (.none)] 4 }
def ob293 : Obj := { cls := .type "type", data := Data.cls { name := "Part", bases := [.type "object"], mro := [.ref 293, .type "object"], ns := 292, qualname := "Part", subclasses := [.ref 352, .ref 385] }, slots := #[none, none, some (.str "Part" 523), some (.str "Part" 531), some (.builtin "object.__new__"), some (.bool true)] }
def ob294 : Obj := { cls := .type "getset_descriptor", data := Data.fields #[.str "__dict__" 580, .ref 293, .builtin "function.__dict__", .builtin "function.__dict__#set"] }
def ob295 : Obj := { cls := .type "getset_descriptor", data := Data.fields #[.str "__weakref__" 582, .ref 293, .builtin "ExceptionGroup.__weakref__", .none] }
def ob296 : Obj := { cls := .type "super", data := Data.fields #[.ref 293, .ref 293, .ref 293] }
def ob297 : Obj := oB #[.builtin "object.__init_subclass__", .ref 293]
def ob298 : Obj := oT #[.ref 293]
def ob299 : Obj := oB #[.builtin "type.__prepare__", .type "type"]
def ob300 (P : Params) : Obj := { cls := .type "dict", data := Data.dict #[kE P "__module__" 594 (.str "sumcraft.parts" 458), kE P "__qualname__" 596 (.str "Choose" 595), kE P "__firstlineno__" 598 (.int 124 597), kE P "__init__" 607 (.ref 311), kE P "lifted" 613 (.ref 316), kE P "worth" 622 (.ref 323), kE P "step" 633 (.ref 330), kE P "up" 643 (.ref 337), kE P "down" 653 (.ref 344), kE P "floor" 659 (.ref 349), kE P "__static_attributes__" 662 (.ref 350)] 11 }
def ob301 : Obj := oT #[]
def ob302 : Obj := oF #[.int 126 0, .int 4 0, .ref 310, .int 130 0, .int 4 0, .ref 315, .int 133 0, .int 4 0, .ref 322, .int 136 0, .int 4 0, .ref 329, .int 142 0, .int 4 0, .ref 336, .int 148 0, .int 4 0, .ref 343, .int 154 0, .int 4 0, .ref 348]
def ob303 : Obj := oK #[.str "Choose" 589, .str "Choose" 590, cp 591, .int 124 0, .int 0 0, .int 0 0, .int 0 0, .int 0 0, .ref 301, .bool false, .int 181 0, .ref 302, .none, .none, .none, .none, .int 592 0, .int 124 0, cp 593]
def ob304 : Obj := { cls := .type "frame", slots := #[some (.ref 303), some (.ref 3), some (.ref 300), none, some (.str "sumcraft.parts" 458), none, some (.ref 0)] }
def ob305 : Obj := oT #[]
def ob306 : Obj := oF #[]
def ob307 : Obj := oT #[.str "self" 602, .str "upper" 603, .str "lower" 604]
def ob308 : Obj := oT #[]
def ob309 : Obj := kN "__init__" "Choose.__init__" (inCls (top 33) 0)
def ob310 : Obj := oK #[.str "__init__" 599, .str "Choose.__init__" 600, cp 601, .int 126 0, .int 3 0, .int 0 0, .int 0 0, .int 3 0, .ref 305, .bool true, .int 181 0, .ref 306, .none, .ref 307, .ref 308, .ref 309, .int 605 0, .int 126 0, cp 606]
def ob311 : Obj := kM "__init__" "Choose.__init__" (inCls (top 33) 0) "sumcraft.parts" 458 310
def ob312 : Obj := oT #[]
def ob313 : Obj := oF #[]
def ob314 : Obj := kN "lifted" "Choose.lifted" (inCls (top 33) 1)
def ob315 : Obj := oK #[.str "lifted" 608, .str "Choose.lifted" 609, cp 610, .int 130 0, .int 2 0, .int 0 0, .int 0 0, .int 3 0, .ref 312, .bool true, .int 181 0, .ref 313, .none, .none, .none, .ref 314, .int 611 0, .int 130 0, cp 612]
def ob316 : Obj := kM "lifted" "Choose.lifted" (inCls (top 33) 1) "sumcraft.parts" 458 315
def ob317 : Obj := oT #[]
def ob318 : Obj := oF #[]
def ob319 : Obj := oT #[.str "self" 617, .str "n" 618, .str "k" 619]
def ob320 : Obj := oT #[]
def ob321 : Obj := kN "worth" "Choose.worth" (inCls (top 33) 2)
def ob322 : Obj := oK #[.str "worth" 614, .str "Choose.worth" 615, cp 616, .int 133 0, .int 3 0, .int 0 0, .int 0 0, .int 3 0, .ref 317, .bool true, .int 181 0, .ref 318, .none, .ref 319, .ref 320, .ref 321, .int 620 0, .int 133 0, cp 621]
def ob323 : Obj := kM "worth" "Choose.worth" (inCls (top 33) 2) "sumcraft.parts" 458 322
def ob324 : Obj := oT #[]
def ob325 : Obj := oF #[]
def ob326 : Obj := oT #[.str "self" 626, .str "i" 627, .str "far" 628, .str "factors" 629, .str "low" 630]
def ob327 : Obj := oT #[]
def ob328 : Obj := kN "step" "Choose.step" (inCls (top 33) 3)
def ob329 : Obj := oK #[.str "step" 623, .str "Choose.step" 624, cp 625, .int 136 0, .int 3 0, .int 0 0, .int 0 0, .int 3 0, .ref 324, .bool true, .int 181 0, .ref 325, .none, .ref 326, .ref 327, .ref 328, .int 631 0, .int 136 0, cp 632]
def ob330 : Obj := kM "step" "Choose.step" (inCls (top 33) 3) "sumcraft.parts" 458 329
def ob331 : Obj := oT #[]
def ob332 : Obj := oF #[]
def ob333 : Obj := oT #[.str "self" 637, .str "far" 638, .str "factors" 639, .str "low" 640]
def ob334 : Obj := oT #[]
def ob335 : Obj := kN "up" "Choose.up" (inCls (top 33) 4)
def ob336 : Obj := oK #[.str "up" 634, .str "Choose.up" 635, cp 636, .int 142 0, .int 2 0, .int 0 0, .int 0 0, .int 3 0, .ref 331, .bool true, .int 181 0, .ref 332, .none, .ref 333, .ref 334, .ref 335, .int 641 0, .int 142 0, cp 642]
def ob337 : Obj := kM "up" "Choose.up" (inCls (top 33) 4) "sumcraft.parts" 458 336
def ob338 : Obj := oT #[]
def ob339 : Obj := oF #[]
def ob340 : Obj := oT #[.str "self" 647, .str "far" 648, .str "factors" 649, .str "low" 650]
def ob341 : Obj := oT #[]
def ob342 : Obj := kN "down" "Choose.down" (inCls (top 33) 5)
def ob343 : Obj := oK #[.str "down" 644, .str "Choose.down" 645, cp 646, .int 148 0, .int 2 0, .int 0 0, .int 0 0, .int 3 0, .ref 338, .bool true, .int 181 0, .ref 339, .none, .ref 340, .ref 341, .ref 342, .int 651 0, .int 148 0, cp 652]
def ob344 : Obj := kM "down" "Choose.down" (inCls (top 33) 5) "sumcraft.parts" 458 343
def ob345 : Obj := oT #[]
def ob346 : Obj := oF #[]
def ob347 : Obj := kN "floor" "Choose.floor" (inCls (top 33) 6)
def ob348 : Obj := oK #[.str "floor" 654, .str "Choose.floor" 655, cp 656, .int 154 0, .int 4 0, .int 0 0, .int 0 0, .int 3 0, .ref 345, .bool true, .int 181 0, .ref 346, .none, .none, .none, .ref 347, .int 657 0, .int 154 0, cp 658]
def ob349 : Obj := kM "floor" "Choose.floor" (inCls (top 33) 6) "sumcraft.parts" 458 348
def ob350 : Obj := oT #[.str "above" 660, .str "lows" 661]
def ob351 (P : Params) : Obj := { cls := .type "dict", data := Data.dict #[kE P "__module__" 594 (.str "sumcraft.parts" 458), kE P "__firstlineno__" 598 (.int 124 597), kE P "__init__" 607 (.ref 311), kE P "lifted" 613 (.ref 316), kE P "worth" 622 (.ref 323), kE P "step" 633 (.ref 330), kE P "up" 643 (.ref 337), kE P "down" 653 (.ref 344), kE P "floor" 659 (.ref 349), kE P "__static_attributes__" 662 (.ref 350), kE P "__doc__" 663 (.none)] 2 }
def ob352 : Obj := { cls := .type "type", data := Data.cls { name := "Choose", bases := [.ref 293], mro := [.ref 352, .ref 293, .type "object"], ns := 351, qualname := "Choose" }, slots := #[some (.ref 298), none, some (.str "Choose" 587), some (.str "Choose" 595), some (.builtin "object.__new__"), some (.bool true)] }
def ob353 : Obj := { cls := .type "super", data := Data.fields #[.ref 352, .ref 352, .ref 352] }
def ob354 : Obj := oB #[.builtin "object.__init_subclass__", .ref 352]
def ob355 : Obj := oT #[.ref 293]
def ob356 : Obj := oB #[.builtin "type.__prepare__", .type "type"]
def ob357 (P : Params) : Obj := { cls := .type "dict", data := Data.dict #[kE P "__module__" 673 (.str "sumcraft.parts" 458), kE P "__qualname__" 675 (.str "Weight" 674), kE P "__firstlineno__" 677 (.int 160 676), kE P "__init__" 685 (.ref 368), kE P "worth" 694 (.ref 375), kE P "step" 703 (.ref 382), kE P "__static_attributes__" 705 (.ref 383)] 7 }
def ob358 : Obj := oT #[]
def ob359 : Obj := oF #[.int 162 0, .int 4 0, .ref 367, .int 165 0, .int 4 0, .ref 374, .int 168 0, .int 4 0, .ref 381]
def ob360 : Obj := oK #[.str "Weight" 668, .str "Weight" 669, cp 670, .int 160 0, .int 0 0, .int 0 0, .int 0 0, .int 0 0, .ref 358, .bool false, .int 181 0, .ref 359, .none, .none, .none, .none, .int 671 0, .int 160 0, cp 672]
def ob361 : Obj := { cls := .type "frame", slots := #[some (.ref 360), some (.ref 3), some (.ref 357), none, some (.str "sumcraft.parts" 458), none, some (.ref 0)] }
def ob362 : Obj := oT #[]
def ob363 : Obj := oF #[]
def ob364 : Obj := oT #[.str "self" 681, .str "form" 682]
def ob365 : Obj := oT #[]
def ob366 : Obj := kN "__init__" "Weight.__init__" (inCls (top 34) 0)
def ob367 : Obj := oK #[.str "__init__" 678, .str "Weight.__init__" 679, cp 680, .int 162 0, .int 2 0, .int 0 0, .int 0 0, .int 3 0, .ref 362, .bool true, .int 181 0, .ref 363, .none, .ref 364, .ref 365, .ref 366, .int 683 0, .int 162 0, cp 684]
def ob368 : Obj := kM "__init__" "Weight.__init__" (inCls (top 34) 0) "sumcraft.parts" 458 367
def ob369 : Obj := oT #[]
def ob370 : Obj := oF #[]
def ob371 : Obj := oT #[.str "self" 689, .str "n" 690, .str "k" 691]
def ob372 : Obj := oT #[]
def ob373 : Obj := kN "worth" "Weight.worth" (inCls (top 34) 1)
def ob374 : Obj := oK #[.str "worth" 686, .str "Weight.worth" 687, cp 688, .int 165 0, .int 3 0, .int 0 0, .int 0 0, .int 3 0, .ref 369, .bool true, .int 181 0, .ref 370, .none, .ref 371, .ref 372, .ref 373, .int 692 0, .int 165 0, cp 693]
def ob375 : Obj := kM "worth" "Weight.worth" (inCls (top 34) 1) "sumcraft.parts" 458 374
def ob376 : Obj := oT #[]
def ob377 : Obj := oF #[]
def ob378 : Obj := oT #[.str "self" 698, .str "i" 699, .str "far" 700]
def ob379 : Obj := oT #[]
def ob380 : Obj := kN "step" "Weight.step" (inCls (top 34) 2)
def ob381 : Obj := oK #[.str "step" 695, .str "Weight.step" 696, cp 697, .int 168 0, .int 3 0, .int 0 0, .int 0 0, .int 3 0, .ref 376, .bool true, .int 181 0, .ref 377, .none, .ref 378, .ref 379, .ref 380, .int 701 0, .int 168 0, cp 702]
def ob382 : Obj := kM "step" "Weight.step" (inCls (top 34) 2) "sumcraft.parts" 458 381
def ob383 : Obj := oT #[.str "form" 704]
def ob384 (P : Params) : Obj := { cls := .type "dict", data := Data.dict #[kE P "__module__" 673 (.str "sumcraft.parts" 458), kE P "__firstlineno__" 677 (.int 160 676), kE P "__init__" 685 (.ref 368), kE P "worth" 694 (.ref 375), kE P "step" 703 (.ref 382), kE P "__static_attributes__" 705 (.ref 383), kE P "__doc__" 706 (.none)] 2 }
def ob385 : Obj := { cls := .type "type", data := Data.cls { name := "Weight", bases := [.ref 293], mro := [.ref 385, .ref 293, .type "object"], ns := 384, qualname := "Weight" }, slots := #[some (.ref 355), none, some (.str "Weight" 666), some (.str "Weight" 674), some (.builtin "object.__new__"), some (.bool true)] }
def ob386 : Obj := { cls := .type "super", data := Data.fields #[.ref 385, .ref 385, .ref 385] }
def ob387 : Obj := oB #[.builtin "object.__init_subclass__", .ref 385]
def ob3''' (P : Params) : Obj := { cls := .type "dict", data := Data.dict #[kE P "__name__" 165 (.str "sumcraft.terms" 822), kE P "__doc__" 166 (.none), kE P "__package__" 167 (.none), kE P "__loader__" 168 (.builtin "__main__.__loader__#opaque"), kE P "__spec__" 169 (.none), kE P "__annotations__" 170 (.ref 6), kE P "__builtins__" 171 (.ref 4), kE P "__file__" 173 (cp 172), kE P "__cached__" 174 (.none), kE P "SumError" 206 (.ref 24), kE P "NoNumber" 222 (.ref 37), kE P "NoRule" 238 (.ref 49), kE P "TooFew" 254 (.ref 61), kE P "NotKept" 279 (.ref 80), kE P "TooGreat" 295 (.ref 92), kE P "NoPlace" 311 (.ref 104), kE P "NoTerm" 327 (.ref 116), kE P "NoEnds" 343 (.ref 128), kE P "NoLine" 359 (.ref 140), kE P "NoName" 375 (.ref 152), kE P "bare" 383 (.ref 159), kE P "pair_times" 397 (.ref 166), kE P "pair_of_form" 404 (.ref 173), kE P "pair_product" 413 (.ref 180), kE P "LONG" 417 (.int 4000 416), kE P "WINDOW" 419 (.int 300 418), kE P "shortened" 436 (.ref 187), kE P "divisor" 448 (.ref 194), kE P "ratio" 457 (.ref 201), kE P "FEW" 461 (.int 16 460), kE P "form_value" 470 (.ref 208), kE P "raised" 478 (.ref 215), kE P "raised_from" 484 (.ref 220), kE P "low_forms" 492 (.ref 227), kE P "power_of" 502 (.ref 234), kE P "run_product" 513 (.ref 241), kE P "choices" 522 (.ref 248), kE P "Part" 586 (.ref 293), kE P "Choose" 665 (.ref 352), kE P "Weight" 708 (.ref 385), kE P "Power" 768 (.ref 432), kE P "Growth" 821 (.ref 472), kE P "MOST_PARTS" 825 (.int 6 824), kE P "UPPER_LEAST" 829 (.ref 475), kE P "LOWER_LEAST" 836 (.ref 476), kE P "GREATEST" 840 (.ref 477), kE P "within" 846 (.ref 482), kE P "check_choose" 855 (.ref 489), kE P "check_base" 862 (.ref 496), kE P "piece_of" 869 (.ref 503), kE P "product" 881 (.ref 510), kE P "Term" 934 (.ref 547)] 52 }
def ob12'''' : Obj := oF #[.int 2 0, .int 0 0, .ref 20, .int 4 0, .int 0 0, .ref 33, .int 6 0, .int 0 0, .ref 45, .int 8 0, .int 0 0, .ref 57, .int 10 0, .int 0 0, .ref 69, .int 15 0, .int 0 0, .ref 88, .int 17 0, .int 0 0, .ref 100, .int 19 0, .int 0 0, .ref 112, .int 21 0, .int 0 0, .ref 124, .int 23 0, .int 0 0, .ref 136, .int 25 0, .int 0 0, .ref 148, .int 28 0, .int 0 0, .ref 158, .int 30 0, .int 0 0, .ref 165, .int 37 0, .int 0 0, .ref 172, .int 39 0, .int 0 0, .ref 179, .int 47 0, .int 0 0, .ref 186, .int 63 0, .int 0 0, .ref 193, .int 75 0, .int 0 0, .ref 200, .int 84 0, .int 0 0, .ref 207, .int 86 0, .int 0 0, .ref 214, .int 88 0, .int 0 0, .ref 219, .int 90 0, .int 0 0, .ref 226, .int 92 0, .int 0 0, .ref 233, .int 97 0, .int 0 0, .ref 240, .int 105 0, .int 0 0, .ref 247, .int 108 0, .int 0 0, .ref 254, .int 124 0, .int 0 0, .ref 303, .int 160 0, .int 0 0, .ref 360, .int 170 0, .int 0 0, .ref 393, .int 186 0, .int 0 0, .ref 440, .int 204 0, .int 0 0, .ref 481, .int 206 0, .int 0 0, .ref 488, .int 212 0, .int 0 0, .ref 495, .int 215 0, .int 0 0, .ref 502, .int 228 0, .int 0 0, .ref 509, .int 237 0, .int 0 0, .ref 516]
def ob293' : Obj := { cls := .type "type", data := Data.cls { name := "Part", bases := [.type "object"], mro := [.ref 293, .type "object"], ns := 292, qualname := "Part", subclasses := [.ref 352, .ref 385, .ref 432, .ref 472] }, slots := #[none, none, some (.str "Part" 523), some (.str "Part" 531), some (.builtin "object.__new__"), some (.bool true)] }
def ob388 : Obj := oT #[.ref 293]
def ob389 : Obj := oB #[.builtin "type.__prepare__", .type "type"]
def ob390 (P : Params) : Obj := { cls := .type "dict", data := Data.dict #[kE P "__module__" 716 (.str "sumcraft.parts" 458), kE P "__qualname__" 718 (.str "Power" 717), kE P "__firstlineno__" 720 (.int 170 719), kE P "__init__" 728 (.ref 401), kE P "worth" 737 (.ref 408), kE P "up" 745 (.ref 415), kE P "down" 753 (.ref 422), kE P "floor" 763 (.ref 429), kE P "__static_attributes__" 765 (.ref 430)] 9 }
def ob391 : Obj := oT #[]
def ob392 : Obj := oF #[.int 172 0, .int 4 0, .ref 400, .int 175 0, .int 4 0, .ref 407, .int 178 0, .int 4 0, .ref 414, .int 181 0, .int 4 0, .ref 421, .int 184 0, .int 4 0, .ref 428]
def ob393 : Obj := oK #[.str "Power" 711, .str "Power" 712, cp 713, .int 170 0, .int 0 0, .int 0 0, .int 0 0, .int 0 0, .ref 391, .bool false, .int 181 0, .ref 392, .none, .none, .none, .none, .int 714 0, .int 170 0, cp 715]
def ob394 : Obj := { cls := .type "frame", slots := #[some (.ref 393), some (.ref 3), some (.ref 390), none, some (.str "sumcraft.parts" 458), none, some (.ref 0)] }
def ob395 : Obj := oT #[]
def ob396 : Obj := oF #[]
def ob397 : Obj := oT #[.str "self" 724, .str "fraction" 725]
def ob398 : Obj := oT #[]
def ob399 : Obj := kN "__init__" "Power.__init__" (inCls (top 35) 0)
def ob400 : Obj := oK #[.str "__init__" 721, .str "Power.__init__" 722, cp 723, .int 172 0, .int 2 0, .int 0 0, .int 0 0, .int 3 0, .ref 395, .bool true, .int 181 0, .ref 396, .none, .ref 397, .ref 398, .ref 399, .int 726 0, .int 172 0, cp 727]
def ob401 : Obj := kM "__init__" "Power.__init__" (inCls (top 35) 0) "sumcraft.parts" 458 400
def ob402 : Obj := oT #[]
def ob403 : Obj := oF #[]
def ob404 : Obj := oT #[.str "self" 732, .str "n" 733, .str "k" 734]
def ob405 : Obj := oT #[]
def ob406 : Obj := kN "worth" "Power.worth" (inCls (top 35) 1)
def ob407 : Obj := oK #[.str "worth" 729, .str "Power.worth" 730, cp 731, .int 175 0, .int 3 0, .int 0 0, .int 0 0, .int 3 0, .ref 402, .bool true, .int 181 0, .ref 403, .none, .ref 404, .ref 405, .ref 406, .int 735 0, .int 175 0, cp 736]
def ob408 : Obj := kM "worth" "Power.worth" (inCls (top 35) 1) "sumcraft.parts" 458 407
def ob409 : Obj := oT #[]
def ob410 : Obj := oF #[]
def ob411 : Obj := oT #[.str "self" 741, .str "far" 742]
def ob412 : Obj := oT #[]
def ob413 : Obj := kN "up" "Power.up" (inCls (top 35) 2)
def ob414 : Obj := oK #[.str "up" 738, .str "Power.up" 739, cp 740, .int 178 0, .int 2 0, .int 0 0, .int 0 0, .int 3 0, .ref 409, .bool true, .int 181 0, .ref 410, .none, .ref 411, .ref 412, .ref 413, .int 743 0, .int 178 0, cp 744]
def ob415 : Obj := kM "up" "Power.up" (inCls (top 35) 2) "sumcraft.parts" 458 414
def ob416 : Obj := oT #[]
def ob417 : Obj := oF #[]
def ob418 : Obj := oT #[.str "self" 749, .str "far" 750]
def ob419 : Obj := oT #[]
def ob420 : Obj := kN "down" "Power.down" (inCls (top 35) 3)
def ob421 : Obj := oK #[.str "down" 746, .str "Power.down" 747, cp 748, .int 181 0, .int 2 0, .int 0 0, .int 0 0, .int 3 0, .ref 416, .bool true, .int 181 0, .ref 417, .none, .ref 418, .ref 419, .ref 420, .int 751 0, .int 181 0, cp 752]
def ob422 : Obj := kM "down" "Power.down" (inCls (top 35) 3) "sumcraft.parts" 458 421
def ob423 : Obj := oT #[]
def ob424 : Obj := oF #[]
def ob425 : Obj := oT #[.str "self" 757, .str "n" 758, .str "k" 759, .str "far" 760]
def ob426 : Obj := oT #[]
def ob427 : Obj := kN "floor" "Power.floor" (inCls (top 35) 4)
def ob428 : Obj := oK #[.str "floor" 754, .str "Power.floor" 755, cp 756, .int 184 0, .int 4 0, .int 0 0, .int 0 0, .int 3 0, .ref 423, .bool true, .int 181 0, .ref 424, .none, .ref 425, .ref 426, .ref 427, .int 761 0, .int 184 0, cp 762]
def ob429 : Obj := kM "floor" "Power.floor" (inCls (top 35) 4) "sumcraft.parts" 458 428
def ob430 : Obj := oT #[.str "fraction" 764]
def ob431 (P : Params) : Obj := { cls := .type "dict", data := Data.dict #[kE P "__module__" 716 (.str "sumcraft.parts" 458), kE P "__firstlineno__" 720 (.int 170 719), kE P "__init__" 728 (.ref 401), kE P "worth" 737 (.ref 408), kE P "up" 745 (.ref 415), kE P "down" 753 (.ref 422), kE P "floor" 763 (.ref 429), kE P "__static_attributes__" 765 (.ref 430), kE P "__doc__" 766 (.none)] 2 }
def ob432 : Obj := { cls := .type "type", data := Data.cls { name := "Power", bases := [.ref 293], mro := [.ref 432, .ref 293, .type "object"], ns := 431, qualname := "Power" }, slots := #[some (.ref 388), none, some (.str "Power" 709), some (.str "Power" 717), some (.builtin "object.__new__"), some (.bool true)] }
def ob433 : Obj := { cls := .type "super", data := Data.fields #[.ref 432, .ref 432, .ref 432] }
def ob434 : Obj := oB #[.builtin "object.__init_subclass__", .ref 432]
def ob435 : Obj := oT #[.ref 293]
def ob436 : Obj := oB #[.builtin "type.__prepare__", .type "type"]
def ob437 (P : Params) : Obj := { cls := .type "dict", data := Data.dict #[kE P "__module__" 776 (.str "sumcraft.parts" 458), kE P "__qualname__" 778 (.str "Growth" 777), kE P "__firstlineno__" 780 (.int 186 779), kE P "__init__" 788 (.ref 448), kE P "worth" 797 (.ref 455), kE P "step" 806 (.ref 462), kE P "floor" 816 (.ref 469), kE P "__static_attributes__" 818 (.ref 470)] 8 }
def ob438 : Obj := oT #[]
def ob439 : Obj := oF #[.int 188 0, .int 4 0, .ref 447, .int 191 0, .int 4 0, .ref 454, .int 194 0, .int 4 0, .ref 461, .int 197 0, .int 4 0, .ref 468]
def ob440 : Obj := oK #[.str "Growth" 771, .str "Growth" 772, cp 773, .int 186 0, .int 0 0, .int 0 0, .int 0 0, .int 0 0, .ref 438, .bool false, .int 181 0, .ref 439, .none, .none, .none, .none, .int 774 0, .int 186 0, cp 775]
def ob441 : Obj := { cls := .type "frame", slots := #[some (.ref 440), some (.ref 3), some (.ref 437), none, some (.str "sumcraft.parts" 458), none, some (.ref 0)] }
def ob442 : Obj := oT #[]
def ob443 : Obj := oF #[]
def ob444 : Obj := oT #[.str "self" 784, .str "fraction" 785]
def ob445 : Obj := oT #[]
def ob446 : Obj := kN "__init__" "Growth.__init__" (inCls (top 36) 0)
def ob447 : Obj := oK #[.str "__init__" 781, .str "Growth.__init__" 782, cp 783, .int 188 0, .int 2 0, .int 0 0, .int 0 0, .int 3 0, .ref 442, .bool true, .int 181 0, .ref 443, .none, .ref 444, .ref 445, .ref 446, .int 786 0, .int 188 0, cp 787]
def ob448 : Obj := kM "__init__" "Growth.__init__" (inCls (top 36) 0) "sumcraft.parts" 458 447
def ob449 : Obj := oT #[]
def ob450 : Obj := oF #[]
def ob451 : Obj := oT #[.str "self" 792, .str "n" 793, .str "k" 794]
def ob452 : Obj := oT #[]
def ob453 : Obj := kN "worth" "Growth.worth" (inCls (top 36) 1)
def ob454 : Obj := oK #[.str "worth" 789, .str "Growth.worth" 790, cp 791, .int 191 0, .int 3 0, .int 0 0, .int 0 0, .int 3 0, .ref 449, .bool true, .int 181 0, .ref 450, .none, .ref 451, .ref 452, .ref 453, .int 795 0, .int 191 0, cp 796]
def ob455 : Obj := kM "worth" "Growth.worth" (inCls (top 36) 1) "sumcraft.parts" 458 454
def ob456 : Obj := oT #[]
def ob457 : Obj := oF #[]
def ob458 : Obj := oT #[.str "self" 801, .str "i" 802, .str "far" 803]
def ob459 : Obj := oT #[]
def ob460 : Obj := kN "step" "Growth.step" (inCls (top 36) 2)
def ob461 : Obj := oK #[.str "step" 798, .str "Growth.step" 799, cp 800, .int 194 0, .int 3 0, .int 0 0, .int 0 0, .int 3 0, .ref 456, .bool true, .int 181 0, .ref 457, .none, .ref 458, .ref 459, .ref 460, .int 804 0, .int 194 0, cp 805]
def ob462 : Obj := kM "step" "Growth.step" (inCls (top 36) 2) "sumcraft.parts" 458 461
def ob463 : Obj := oT #[]
def ob464 : Obj := oF #[]
def ob465 : Obj := oT #[.str "self" 810, .str "n" 811, .str "k" 812, .str "far" 813]
def ob466 : Obj := oT #[]
def ob467 : Obj := kN "floor" "Growth.floor" (inCls (top 36) 3)
def ob468 : Obj := oK #[.str "floor" 807, .str "Growth.floor" 808, cp 809, .int 197 0, .int 4 0, .int 0 0, .int 0 0, .int 3 0, .ref 463, .bool true, .int 181 0, .ref 464, .none, .ref 465, .ref 466, .ref 467, .int 814 0, .int 197 0, cp 815]
def ob469 : Obj := kM "floor" "Growth.floor" (inCls (top 36) 3) "sumcraft.parts" 458 468
def ob470 : Obj := oT #[.str "fraction" 817]
def ob471 (P : Params) : Obj := { cls := .type "dict", data := Data.dict #[kE P "__module__" 776 (.str "sumcraft.parts" 458), kE P "__firstlineno__" 780 (.int 186 779), kE P "__init__" 788 (.ref 448), kE P "worth" 797 (.ref 455), kE P "step" 806 (.ref 462), kE P "floor" 816 (.ref 469), kE P "__static_attributes__" 818 (.ref 470), kE P "__doc__" 819 (.none)] 2 }
def ob472 : Obj := { cls := .type "type", data := Data.cls { name := "Growth", bases := [.ref 293], mro := [.ref 472, .ref 293, .type "object"], ns := 471, qualname := "Growth" }, slots := #[some (.ref 435), none, some (.str "Growth" 769), some (.str "Growth" 777), some (.builtin "object.__new__"), some (.bool true)] }
def ob473 : Obj := { cls := .type "super", data := Data.fields #[.ref 472, .ref 472, .ref 472] }
def ob474 : Obj := oB #[.builtin "object.__init_subclass__", .ref 472]
def ob475 : Obj := oT #[.int 0 826, .int 0 827, .int 0 828]
def ob476 : Obj := oT #[.int (-3) 831, .int (-3) 833, .int (-9) 835]
def ob477 : Obj := oT #[.int 3 837, .int 3 838, .int 9 839]
def ob478 : Obj := oT #[]
def ob479 : Obj := oF #[]
def ob480 : Obj := kN "within" "within" (top 42)
def ob481 : Obj := oK #[.str "within" 841, .str "within" 842, cp 843, .int 204 0, .int 2 0, .int 0 0, .int 0 0, .int 3 0, .ref 478, .bool true, .int 181 0, .ref 479, .none, .none, .none, .ref 480, .int 844 0, .int 204 0, cp 845]
def ob482 : Obj := kM "within" "within" (top 42) "sumcraft.terms" 822 481
def ob483 : Obj := oT #[]
def ob484 : Obj := oF #[]
def ob485 : Obj := oT #[.str "upper" 850, .str "lower" 851, .str "low" 852]
def ob486 : Obj := oT #[]
def ob487 : Obj := kN "check_choose" "check_choose" (top 43)
def ob488 : Obj := oK #[.str "check_choose" 847, .str "check_choose" 848, cp 849, .int 206 0, .int 2 0, .int 0 0, .int 0 0, .int 3 0, .ref 483, .bool true, .int 181 0, .ref 484, .none, .ref 485, .ref 486, .ref 487, .int 853 0, .int 206 0, cp 854]
def ob489 : Obj := kM "check_choose" "check_choose" (top 43) "sumcraft.terms" 822 488
def ob490 : Obj := oT #[]
def ob491 : Obj := oF #[]
def ob492 : Obj := oT #[.str "fraction" 859]
def ob493 : Obj := oT #[]
def ob494 : Obj := kN "check_base" "check_base" (top 44)
def ob495 : Obj := oK #[.str "check_base" 856, .str "check_base" 857, cp 858, .int 212 0, .int 1 0, .int 0 0, .int 0 0, .int 3 0, .ref 490, .bool true, .int 181 0, .ref 491, .none, .ref 492, .ref 493, .ref 494, .int 860 0, .int 212 0, cp 861]
def ob496 : Obj := kM "check_base" "check_base" (top 44) "sumcraft.terms" 822 495
def ob497 : Obj := oT #[]
def ob498 : Obj := oF #[]
def ob499 : Obj := oT #[.str "part" 866]
def ob500 : Obj := oT #[]
def ob501 : Obj := kN "piece_of" "piece_of" (top 45)
def ob502 : Obj := oK #[.str "piece_of" 863, .str "piece_of" 864, cp 865, .int 215 0, .int 1 0, .int 0 0, .int 0 0, .int 3 0, .ref 497, .bool true, .int 181 0, .ref 498, .none, .ref 499, .ref 500, .ref 501, .int 867 0, .int 215 0, cp 868]
def ob503 : Obj := kM "piece_of" "piece_of" (top 45) "sumcraft.terms" 822 502
def ob504 : Obj := oT #[]
def ob505 : Obj := oF #[]
def ob506 : Obj := oT #[.str "fractions" 873, .str "top" 874, .str "bottom" 875, .str "fraction" 876, .str "left" 877, .str "right" 878]
def ob507 : Obj := oT #[]
def ob508 : Obj := kN "product" "product" (top 46)
def ob509 : Obj := oK #[.str "product" 870, .str "product" 871, cp 872, .int 228 0, .int 1 0, .int 0 0, .int 0 0, .int 3 0, .ref 504, .bool true, .int 181 0, .ref 505, .none, .ref 506, .ref 507, .ref 508, .int 879 0, .int 228 0, cp 880]
def ob510 : Obj := kM "product" "product" (top 46) "sumcraft.terms" 822 509
def ob511 : Obj := oT #[]
def ob512 : Obj := oB #[.builtin "type.__prepare__", .type "type"]
def ob513 (P : Params) : Obj := { cls := .type "dict", data := Data.dict #[kE P "__module__" 889 (.str "sumcraft.terms" 822), kE P "__qualname__" 891 (.str "Term" 890), kE P "__firstlineno__" 893 (.int 237 892), kE P "__init__" 899 (.ref 522), kE P "told" 906 (.ref 529), kE P "worth" 912 (.ref 534), kE P "floor" 918 (.ref 539), kE P "frame" 924 (.ref 544), kE P "__static_attributes__" 927 (.ref 545)] 9 }
def ob514 : Obj := oT #[]
def ob515 : Obj := oF #[.int 239 0, .int 4 0, .ref 521, .int 245 0, .int 4 0, .ref 528, .int 248 0, .int 4 0, .ref 533, .int 251 0, .int 4 0, .ref 538, .int 254 0, .int 4 0, .ref 543]
def ob516 : Obj := oK #[.str "Term" 884, .str "Term" 885, cp 886, .int 237 0, .int 0 0, .int 0 0, .int 0 0, .int 0 0, .ref 514, .bool false, .int 181 0, .ref 515, .none, .none, .none, .none, .int 887 0, .int 237 0, cp 888]
def ob517 : Obj := { cls := .type "frame", slots := #[some (.ref 516), some (.ref 3), some (.ref 513), none, some (.str "sumcraft.terms" 822), none, some (.ref 0)] }
def ob518 : Obj := oT #[]
def ob519 : Obj := oF #[]
def ob520 : Obj := kN "__init__" "Term.__init__" (inCls (top 47) 0)
def ob521 : Obj := oK #[.str "__init__" 894, .str "Term.__init__" 895, cp 896, .int 239 0, .int 2 0, .int 0 0, .int 0 0, .int 3 0, .ref 518, .bool true, .int 181 0, .ref 519, .none, .none, .none, .ref 520, .int 897 0, .int 239 0, cp 898]
def ob522 : Obj := kM "__init__" "Term.__init__" (inCls (top 47) 0) "sumcraft.terms" 822 521
def ob523 : Obj := oT #[]
def ob524 : Obj := oF #[]
def ob525 : Obj := oT #[.str "self" 903]
def ob526 : Obj := oT #[]
def ob527 : Obj := kN "told" "Term.told" (inCls (top 47) 1)
def ob528 : Obj := oK #[.str "told" 900, .str "Term.told" 901, cp 902, .int 245 0, .int 1 0, .int 0 0, .int 0 0, .int 3 0, .ref 523, .bool true, .int 181 0, .ref 524, .none, .ref 525, .ref 526, .ref 527, .int 904 0, .int 245 0, cp 905]
def ob529 : Obj := kM "told" "Term.told" (inCls (top 47) 1) "sumcraft.terms" 822 528
def ob530 : Obj := oT #[]
def ob531 : Obj := oF #[]
def ob532 : Obj := kN "worth" "Term.worth" (inCls (top 47) 2)
def ob533 : Obj := oK #[.str "worth" 907, .str "Term.worth" 908, cp 909, .int 248 0, .int 3 0, .int 0 0, .int 0 0, .int 3 0, .ref 530, .bool true, .int 181 0, .ref 531, .none, .none, .none, .ref 532, .int 910 0, .int 248 0, cp 911]
def ob534 : Obj := kM "worth" "Term.worth" (inCls (top 47) 2) "sumcraft.terms" 822 533
def ob535 : Obj := oT #[]
def ob536 : Obj := oF #[]
def ob537 : Obj := kN "floor" "Term.floor" (inCls (top 47) 3)
def ob538 : Obj := oK #[.str "floor" 913, .str "Term.floor" 914, cp 915, .int 251 0, .int 4 0, .int 0 0, .int 0 0, .int 3 0, .ref 535, .bool true, .int 181 0, .ref 536, .none, .none, .none, .ref 537, .int 916 0, .int 251 0, cp 917]
def ob539 : Obj := kM "floor" "Term.floor" (inCls (top 47) 3) "sumcraft.terms" 822 538
def ob540 : Obj := oT #[]
def ob541 : Obj := oF #[]
def ob542 : Obj := kN "frame" "Term.frame" (inCls (top 47) 4)
def ob543 : Obj := oK #[.str "frame" 919, .str "Term.frame" 920, cp 921, .int 254 0, .int 2 0, .int 0 0, .int 0 0, .int 3 0, .ref 540, .bool true, .int 181 0, .ref 541, .none, .none, .none, .ref 542, .int 922 0, .int 254 0, cp 923]
def ob544 : Obj := kM "frame" "Term.frame" (inCls (top 47) 4) "sumcraft.terms" 822 543
def ob545 : Obj := oT #[.str "parts" 925, .str "pieces" 926]
def ob546 (P : Params) : Obj := { cls := .type "dict", data := Data.dict #[kE P "__module__" 889 (.str "sumcraft.terms" 822), kE P "__firstlineno__" 893 (.int 237 892), kE P "__init__" 899 (.ref 522), kE P "told" 906 (.ref 529), kE P "worth" 912 (.ref 534), kE P "floor" 918 (.ref 539), kE P "frame" 924 (.ref 544), kE P "__static_attributes__" 927 (.ref 545), kE P "__dict__" 929 (.ref 548), kE P "__weakref__" 931 (.ref 549), kE P "__doc__" 932 (.none)] 4 }
def ob547 : Obj := { cls := .type "type", data := Data.cls { name := "Term", bases := [.type "object"], mro := [.ref 547, .type "object"], ns := 546, qualname := "Term" }, slots := #[none, none, some (.str "Term" 882), some (.str "Term" 890), some (.builtin "object.__new__"), some (.bool true)] }
def ob548 : Obj := { cls := .type "getset_descriptor", data := Data.fields #[.str "__dict__" 928, .ref 547, .builtin "function.__dict__", .builtin "function.__dict__#set"] }
def ob549 : Obj := { cls := .type "getset_descriptor", data := Data.fields #[.str "__weakref__" 930, .ref 547, .builtin "ExceptionGroup.__weakref__", .none] }
def ob550 : Obj := { cls := .type "super", data := Data.fields #[.ref 547, .ref 547, .ref 547] }
def ob551 : Obj := oB #[.builtin "object.__init_subclass__", .ref 547]
def ob3'''' (P : Params) : Obj := { cls := .type "dict", data := Data.dict #[kE P "__name__" 165 (.str "law_sumcraft_k56_terms_refused" 935), kE P "__doc__" 166 (.none), kE P "__package__" 167 (.none), kE P "__loader__" 168 (.builtin "__main__.__loader__#opaque"), kE P "__spec__" 169 (.none), kE P "__annotations__" 170 (.ref 6), kE P "__builtins__" 171 (.ref 4), kE P "__file__" 173 (cp 172), kE P "__cached__" 174 (.none), kE P "SumError" 206 (.ref 24), kE P "NoNumber" 222 (.ref 37), kE P "NoRule" 238 (.ref 49), kE P "TooFew" 254 (.ref 61), kE P "NotKept" 279 (.ref 80), kE P "TooGreat" 295 (.ref 92), kE P "NoPlace" 311 (.ref 104), kE P "NoTerm" 327 (.ref 116), kE P "NoEnds" 343 (.ref 128), kE P "NoLine" 359 (.ref 140), kE P "NoName" 375 (.ref 152), kE P "bare" 383 (.ref 159), kE P "pair_times" 397 (.ref 166), kE P "pair_of_form" 404 (.ref 173), kE P "pair_product" 413 (.ref 180), kE P "LONG" 417 (.int 4000 416), kE P "WINDOW" 419 (.int 300 418), kE P "shortened" 436 (.ref 187), kE P "divisor" 448 (.ref 194), kE P "ratio" 457 (.ref 201), kE P "FEW" 461 (.int 16 460), kE P "form_value" 470 (.ref 208), kE P "raised" 478 (.ref 215), kE P "raised_from" 484 (.ref 220), kE P "low_forms" 492 (.ref 227), kE P "power_of" 502 (.ref 234), kE P "run_product" 513 (.ref 241), kE P "choices" 522 (.ref 248), kE P "Part" 586 (.ref 293), kE P "Choose" 665 (.ref 352), kE P "Weight" 708 (.ref 385), kE P "Power" 768 (.ref 432), kE P "Growth" 821 (.ref 472), kE P "MOST_PARTS" 825 (.int 6 824), kE P "UPPER_LEAST" 829 (.ref 475), kE P "LOWER_LEAST" 836 (.ref 476), kE P "GREATEST" 840 (.ref 477), kE P "within" 846 (.ref 482), kE P "check_choose" 855 (.ref 489), kE P "check_base" 862 (.ref 496), kE P "piece_of" 869 (.ref 503), kE P "product" 881 (.ref 510), kE P "Term" 934 (.ref 547), kE P "_law_cell_at" 944 (.ref 558), kE P "_law_number" 952 (.ref 565), kE P "_law_divisor" 961 (.ref 572), kE P "_law_mixed" 971 (.ref 579), kE P "_law_forms" 982 (.ref 586), kE P "_law_ratio" 994 (.ref 593), kE P "_law_part" 1000 (.ref 598), kE P "_law_parts" 1006 (.ref 603), kE P "_law_is" 1012 (.ref 608), kE P "_law_beyond" 1025 (.ref 615), kE P "_law_fallen" 1034 (.ref 622), kE P "_law_no_part" 1044 (.ref 629), kE P "_law_refused" 1053 (.ref 636), kE P "_law_spoiled" 1065 (.ref 643), kE P "law" 1076 (.ref 650)] 67 }
def ob12''''' : Obj := oF #[.int 2 0, .int 0 0, .ref 20, .int 4 0, .int 0 0, .ref 33, .int 6 0, .int 0 0, .ref 45, .int 8 0, .int 0 0, .ref 57, .int 10 0, .int 0 0, .ref 69, .int 15 0, .int 0 0, .ref 88, .int 17 0, .int 0 0, .ref 100, .int 19 0, .int 0 0, .ref 112, .int 21 0, .int 0 0, .ref 124, .int 23 0, .int 0 0, .ref 136, .int 25 0, .int 0 0, .ref 148, .int 28 0, .int 0 0, .ref 158, .int 30 0, .int 0 0, .ref 165, .int 37 0, .int 0 0, .ref 172, .int 39 0, .int 0 0, .ref 179, .int 47 0, .int 0 0, .ref 186, .int 63 0, .int 0 0, .ref 193, .int 75 0, .int 0 0, .ref 200, .int 84 0, .int 0 0, .ref 207, .int 86 0, .int 0 0, .ref 214, .int 88 0, .int 0 0, .ref 219, .int 90 0, .int 0 0, .ref 226, .int 92 0, .int 0 0, .ref 233, .int 97 0, .int 0 0, .ref 240, .int 105 0, .int 0 0, .ref 247, .int 108 0, .int 0 0, .ref 254, .int 124 0, .int 0 0, .ref 303, .int 160 0, .int 0 0, .ref 360, .int 170 0, .int 0 0, .ref 393, .int 186 0, .int 0 0, .ref 440, .int 204 0, .int 0 0, .ref 481, .int 206 0, .int 0 0, .ref 488, .int 212 0, .int 0 0, .ref 495, .int 215 0, .int 0 0, .ref 502, .int 228 0, .int 0 0, .ref 509, .int 237 0, .int 0 0, .ref 516, .int 260 0, .int 0 0, .ref 557, .int 264 0, .int 0 0, .ref 564, .int 270 0, .int 0 0, .ref 571, .int 278 0, .int 0 0, .ref 578, .int 287 0, .int 0 0, .ref 585, .int 298 0, .int 0 0, .ref 592, .int 306 0, .int 0 0, .ref 597, .int 315 0, .int 0 0, .ref 602, .int 323 0, .int 0 0, .ref 607, .int 331 0, .int 0 0, .ref 614, .int 341 0, .int 0 0, .ref 621, .int 348 0, .int 0 0, .ref 628, .int 362 0, .int 0 0, .ref 635, .int 369 0, .int 0 0, .ref 642, .int 386 0, .int 0 0, .ref 649]
def ob552 : Obj := oT #[]
def ob553 : Obj := oF #[]
def ob554 : Obj := oT #[.str "_law_script" 940, .str "_law_k" 941]
def ob555 : Obj := oT #[]
def ob556 : Obj := kN "_law_cell_at" "_law_cell_at" (top 49)
def ob557 : Obj := oK #[.str "_law_cell_at" 937, .str "_law_cell_at" 938, cp 939, .int 260 0, .int 2 0, .int 0 0, .int 0 0, .int 3 0, .ref 552, .bool true, .int 181 0, .ref 553, .none, .ref 554, .ref 555, .ref 556, .int 942 0, .int 260 0, cp 943]
def ob558 : Obj := kM "_law_cell_at" "_law_cell_at" (top 49) "law_sumcraft_k56_terms_refused" 935 557
def ob559 : Obj := oT #[]
def ob560 : Obj := oF #[]
def ob561 : Obj := oT #[.str "_law_cell" 948, .str "_law_most" 949]
def ob562 : Obj := oT #[]
def ob563 : Obj := kN "_law_number" "_law_number" (top 50)
def ob564 : Obj := oK #[.str "_law_number" 945, .str "_law_number" 946, cp 947, .int 264 0, .int 2 0, .int 0 0, .int 0 0, .int 3 0, .ref 559, .bool true, .int 181 0, .ref 560, .none, .ref 561, .ref 562, .ref 563, .int 950 0, .int 264 0, cp 951]
def ob565 : Obj := kM "_law_number" "_law_number" (top 50) "law_sumcraft_k56_terms_refused" 935 564
def ob566 : Obj := oT #[]
def ob567 : Obj := oF #[]
def ob568 : Obj := oT #[.str "_law_one" 956, .str "_law_other" 957, .str "_law_rest" 958]
def ob569 : Obj := oT #[]
def ob570 : Obj := kN "_law_divisor" "_law_divisor" (top 51)
def ob571 : Obj := oK #[.str "_law_divisor" 953, .str "_law_divisor" 954, cp 955, .int 270 0, .int 2 0, .int 0 0, .int 0 0, .int 3 0, .ref 566, .bool true, .int 181 0, .ref 567, .none, .ref 568, .ref 569, .ref 570, .int 959 0, .int 270 0, cp 960]
def ob572 : Obj := kM "_law_divisor" "_law_divisor" (top 51) "law_sumcraft_k56_terms_refused" 935 571
def ob573 : Obj := oT #[]
def ob574 : Obj := oF #[]
def ob575 : Obj := oT #[.str "_law_cell" 965, .str "_law_k" 966, .str "_law_number_here" 967, .str "_law_time" 968]
def ob576 : Obj := oT #[]
def ob577 : Obj := kN "_law_mixed" "_law_mixed" (top 52)
def ob578 : Obj := oK #[.str "_law_mixed" 962, .str "_law_mixed" 963, cp 964, .int 278 0, .int 2 0, .int 0 0, .int 0 0, .int 3 0, .ref 573, .bool true, .int 181 0, .ref 574, .none, .ref 575, .ref 576, .ref 577, .int 969 0, .int 278 0, cp 970]
def ob579 : Obj := kM "_law_mixed" "_law_mixed" (top 52) "law_sumcraft_k56_terms_refused" 935 578
def ob580 : Obj := oT #[]
def ob581 : Obj := oF #[]
def ob582 : Obj := oT #[.str "_law_one" 975, .str "_law_other" 976, .str "_law_most" 977, .str "_law_high" 978, .str "_law_low" 979]
def ob583 : Obj := oT #[]
def ob584 : Obj := kN "_law_forms" "_law_forms" (top 53)
def ob585 : Obj := oK #[.str "_law_forms" 972, .str "_law_forms" 973, cp 974, .int 287 0, .int 3 0, .int 0 0, .int 0 0, .int 3 0, .ref 580, .bool true, .int 181 0, .ref 581, .none, .ref 582, .ref 583, .ref 584, .int 980 0, .int 287 0, cp 981]
def ob586 : Obj := kM "_law_forms" "_law_forms" (top 53) "law_sumcraft_k56_terms_refused" 935 585
def ob587 : Obj := oT #[]
def ob588 : Obj := oF #[]
def ob589 : Obj := oT #[.str "_law_one" 986, .str "_law_other" 987, .str "_law_top" 988, .str "_law_number_here" 989, .str "_law_bottom" 990, .str "_law_by" 991]
def ob590 : Obj := oT #[]
def ob591 : Obj := kN "_law_ratio" "_law_ratio" (top 54)
def ob592 : Obj := oK #[.str "_law_ratio" 983, .str "_law_ratio" 984, cp 985, .int 298 0, .int 2 0, .int 0 0, .int 0 0, .int 3 0, .ref 587, .bool true, .int 181 0, .ref 588, .none, .ref 589, .ref 590, .ref 591, .int 992 0, .int 298 0, cp 993]
def ob593 : Obj := kM "_law_ratio" "_law_ratio" (top 54) "law_sumcraft_k56_terms_refused" 935 592
def ob594 : Obj := oT #[]
def ob595 : Obj := oF #[]
def ob596 : Obj := kN "_law_part" "_law_part" (top 55)
def ob597 : Obj := oK #[.str "_law_part" 995, .str "_law_part" 996, cp 997, .int 306 0, .int 2 0, .int 0 0, .int 0 0, .int 3 0, .ref 594, .bool true, .int 181 0, .ref 595, .none, .none, .none, .ref 596, .int 998 0, .int 306 0, cp 999]
def ob598 : Obj := kM "_law_part" "_law_part" (top 55) "law_sumcraft_k56_terms_refused" 935 597
def ob599 : Obj := oT #[]
def ob600 : Obj := oF #[]
def ob601 : Obj := kN "_law_parts" "_law_parts" (top 56)
def ob602 : Obj := oK #[.str "_law_parts" 1001, .str "_law_parts" 1002, cp 1003, .int 315 0, .int 2 0, .int 0 0, .int 0 0, .int 3 0, .ref 599, .bool true, .int 181 0, .ref 600, .none, .none, .none, .ref 601, .int 1004 0, .int 315 0, cp 1005]
def ob603 : Obj := kM "_law_parts" "_law_parts" (top 56) "law_sumcraft_k56_terms_refused" 935 602
def ob604 : Obj := oT #[]
def ob605 : Obj := oF #[]
def ob606 : Obj := kN "_law_is" "_law_is" (top 57)
def ob607 : Obj := oK #[.str "_law_is" 1007, .str "_law_is" 1008, cp 1009, .int 323 0, .int 2 0, .int 0 0, .int 0 0, .int 3 0, .ref 604, .bool true, .int 181 0, .ref 605, .none, .none, .none, .ref 606, .int 1010 0, .int 323 0, cp 1011]
def ob608 : Obj := kM "_law_is" "_law_is" (top 57) "law_sumcraft_k56_terms_refused" 935 607
def ob609 : Obj := oT #[]
def ob610 : Obj := oF #[]
def ob611 : Obj := oT #[.str "_law_number_here" 1016, .str "_law_cell" 1017, .str "_law_more" 1018, .str "_law_forms_here" 1019, .str "_law_at" 1020, .str "_law_least" 1021, .str "_law_most" 1022]
def ob612 : Obj := oT #[]
def ob613 : Obj := kN "_law_beyond" "_law_beyond" (top 58)
def ob614 : Obj := oK #[.str "_law_beyond" 1013, .str "_law_beyond" 1014, cp 1015, .int 331 0, .int 2 0, .int 0 0, .int 0 0, .int 3 0, .ref 609, .bool true, .int 181 0, .ref 610, .none, .ref 611, .ref 612, .ref 613, .int 1023 0, .int 331 0, cp 1024]
def ob615 : Obj := kM "_law_beyond" "_law_beyond" (top 58) "law_sumcraft_k56_terms_refused" 935 614
def ob616 : Obj := oT #[]
def ob617 : Obj := oF #[]
def ob618 : Obj := oT #[.str "_law_number_here" 1029, .str "_law_low" 1030, .str "_law_high" 1031]
def ob619 : Obj := oT #[]
def ob620 : Obj := kN "_law_fallen" "_law_fallen" (top 59)
def ob621 : Obj := oK #[.str "_law_fallen" 1026, .str "_law_fallen" 1027, cp 1028, .int 341 0, .int 1 0, .int 0 0, .int 0 0, .int 3 0, .ref 616, .bool true, .int 181 0, .ref 617, .none, .ref 618, .ref 619, .ref 620, .int 1032 0, .int 341 0, cp 1033]
def ob622 : Obj := kM "_law_fallen" "_law_fallen" (top 59) "law_sumcraft_k56_terms_refused" 935 621
def ob623 : Obj := oT #[]
def ob624 : Obj := oF #[]
def ob625 : Obj := oT #[.str "_law_cell" 1038, .str "_law_number_here" 1039, .str "_law_way" 1040, .str "_law_words" 1041]
def ob626 : Obj := oT #[]
def ob627 : Obj := kN "_law_no_part" "_law_no_part" (top 60)
def ob628 : Obj := oK #[.str "_law_no_part" 1035, .str "_law_no_part" 1036, cp 1037, .int 348 0, .int 1 0, .int 0 0, .int 0 0, .int 3 0, .ref 623, .bool true, .int 181 0, .ref 624, .none, .ref 625, .ref 626, .ref 627, .int 1042 0, .int 348 0, cp 1043]
def ob629 : Obj := kM "_law_no_part" "_law_no_part" (top 60) "law_sumcraft_k56_terms_refused" 935 628
def ob630 : Obj := oT #[]
def ob631 : Obj := oF #[]
def ob632 : Obj := oT #[.str "_law_parts_here" 1048, .str "_law_caught" 1049, .str "e" 1050]
def ob633 : Obj := oT #[]
def ob634 : Obj := kN "_law_refused" "_law_refused" (top 61)
def ob635 : Obj := oK #[.str "_law_refused" 1045, .str "_law_refused" 1046, cp 1047, .int 362 0, .int 1 0, .int 0 0, .int 0 0, .int 3 0, .ref 630, .bool true, .int 181 0, .ref 631, .none, .ref 632, .ref 633, .ref 634, .int 1051 0, .int 362 0, cp 1052]
def ob636 : Obj := kM "_law_refused" "_law_refused" (top 61) "law_sumcraft_k56_terms_refused" 935 635
def ob637 : Obj := oT #[]
def ob638 : Obj := oF #[]
def ob639 : Obj := oT #[.str "_law_handed" 1057, .str "_law_parts_here" 1058, .str "_law_cell" 1059, .str "_law_number_here" 1060, .str "_law_at" 1061, .str "_law_due" 1062]
def ob640 : Obj := oT #[]
def ob641 : Obj := kN "_law_spoiled" "_law_spoiled" (top 62)
def ob642 : Obj := oK #[.str "_law_spoiled" 1054, .str "_law_spoiled" 1055, cp 1056, .int 369 0, .int 3 0, .int 0 0, .int 0 0, .int 3 0, .ref 637, .bool true, .int 181 0, .ref 638, .none, .ref 639, .ref 640, .ref 641, .int 1063 0, .int 369 0, cp 1064]
def ob643 : Obj := kM "_law_spoiled" "_law_spoiled" (top 62) "law_sumcraft_k56_terms_refused" 935 642
def ob644 : Obj := oT #[]
def ob645 : Obj := oF #[]
def ob646 : Obj := oT #[.str "_law_script" 1069, .str "_law_parts_here" 1070, .str "_law_handed" 1071, .str "_law_cell" 1072, .str "_law_many" 1073]
def ob647 : Obj := oT #[]
def ob648 : Obj := kN "law" "law" (top 63)
def ob649 : Obj := oK #[.str "law" 1066, .str "law" 1067, cp 1068, .int 386 0, .int 1 0, .int 0 0, .int 0 0, .int 3 0, .ref 644, .bool true, .int 181 0, .ref 645, .none, .ref 646, .ref 647, .ref 648, .int 1074 0, .int 386 0, cp 1075]
def ob650 : Obj := kM "law" "law" (top 63) "law_sumcraft_k56_terms_refused" 935 649
def env0 : Env := { scope := PySem.Challenge.pw_sumcraft_k56_terms_refused.main.scope, locals := mainNs, globals := mainNs, cells := [], code := .ref 13, frame := some 14 }
def cd0 : Code := .body (behindTheImports PySem.Challenge.pw_sumcraft_k56_terms_refused) env0
def fr0 : List Frame := [topFrame { line := 0, col := 0, endLine := 0, endCol := 0 }]
noncomputable def hp1 (P : Params) : Heap := ⟨⟨[boot_o_0 P, boot_o_1 P, boot_o_2 P, boot_o_3 P, boot_o_4 P, boot_o_5 P, boot_o_6 P, boot_o_7 P, boot_o_8 P, boot_o_9 P, boot_o_10 P, ob11, ob12, ob13, ob14]⟩, {}⟩
noncomputable def hp3 (P : Params) : Heap := ⟨⟨[boot_o_0 P, boot_o_1 P, boot_o_2 P, ob3 P, boot_o_4 P, boot_o_5 P, boot_o_6 P, boot_o_7 P, boot_o_8 P, boot_o_9 P, boot_o_10 P, ob11, ob12', ob13, ob14, ob15, ob16, ob17 P, ob18, ob19, ob20, ob21, ob22, ob23 P, ob24, ob25, ob26, ob27, ob28, ob29, ob30 P, ob31, ob32, ob33, ob34, ob35, ob36 P, ob37, ob38, ob39, ob40, ob41, ob42 P, ob43, ob44, ob45, ob46, ob47, ob48 P, ob49, ob50, ob51, ob52, ob53, ob54 P, ob55, ob56, ob57, ob58, ob59, ob60 P, ob61, ob62, ob63, ob64, ob65, ob66 P, ob67, ob68, ob69, ob70, ob71, ob72, ob73, ob74, ob75, ob76, ob77, ob78, ob79 P, ob80, ob81, ob82, ob83, ob84, ob85 P, ob86, ob87, ob88, ob89, ob90, ob91 P, ob92, ob93, ob94]⟩, {}⟩
noncomputable def hp4 (P : Params) : Heap := ⟨⟨[boot_o_0 P, boot_o_1 P, boot_o_2 P, ob3' P, boot_o_4 P, boot_o_5 P, boot_o_6 P, boot_o_7 P, boot_o_8 P, boot_o_9 P, boot_o_10 P, ob11, ob12'', ob13, ob14, ob15, ob16, ob17 P, ob18, ob19, ob20, ob21, ob22, ob23 P, ob24', ob25, ob26, ob27, ob28, ob29, ob30 P, ob31, ob32, ob33, ob34, ob35, ob36 P, ob37, ob38, ob39, ob40, ob41, ob42 P, ob43, ob44, ob45, ob46, ob47, ob48 P, ob49, ob50, ob51, ob52, ob53, ob54 P, ob55, ob56, ob57, ob58, ob59, ob60 P, ob61, ob62, ob63, ob64, ob65, ob66 P, ob67, ob68, ob69, ob70, ob71, ob72, ob73, ob74, ob75, ob76, ob77, ob78, ob79 P, ob80, ob81, ob82, ob83, ob84, ob85 P, ob86, ob87, ob88, ob89, ob90, ob91 P, ob92, ob93, ob94, ob95, ob96, ob97 P, ob98, ob99, ob100, ob101, ob102, ob103 P, ob104, ob105, ob106, ob107, ob108, ob109 P, ob110, ob111, ob112, ob113, ob114, ob115 P, ob116, ob117, ob118, ob119, ob120, ob121 P, ob122, ob123, ob124, ob125, ob126, ob127 P, ob128, ob129, ob130, ob131, ob132, ob133 P, ob134, ob135, ob136, ob137, ob138, ob139 P, ob140, ob141, ob142, ob143, ob144, ob145 P, ob146, ob147, ob148, ob149, ob150, ob151 P, ob152, ob153, ob154, ob155, ob156, ob157, ob158, ob159, ob160, ob161, ob162, ob163, ob164, ob165, ob166, ob167, ob168, ob169, ob170, ob171, ob172, ob173, ob174, ob175, ob176, ob177, ob178, ob179, ob180]⟩, {}⟩
noncomputable def hp5 (P : Params) : Heap := ⟨⟨[boot_o_0 P, boot_o_1 P, boot_o_2 P, ob3'' P, boot_o_4 P, boot_o_5 P, boot_o_6 P, boot_o_7 P, boot_o_8 P, boot_o_9 P, boot_o_10 P, ob11, ob12''', ob13, ob14, ob15, ob16, ob17 P, ob18, ob19, ob20, ob21, ob22, ob23 P, ob24', ob25, ob26, ob27, ob28, ob29, ob30 P, ob31, ob32, ob33, ob34, ob35, ob36 P, ob37, ob38, ob39, ob40, ob41, ob42 P, ob43, ob44, ob45, ob46, ob47, ob48 P, ob49, ob50, ob51, ob52, ob53, ob54 P, ob55, ob56, ob57, ob58, ob59, ob60 P, ob61, ob62, ob63, ob64, ob65, ob66 P, ob67, ob68, ob69, ob70, ob71, ob72, ob73, ob74, ob75, ob76, ob77, ob78, ob79 P, ob80, ob81, ob82, ob83, ob84, ob85 P, ob86, ob87, ob88, ob89, ob90, ob91 P, ob92, ob93, ob94, ob95, ob96, ob97 P, ob98, ob99, ob100, ob101, ob102, ob103 P, ob104, ob105, ob106, ob107, ob108, ob109 P, ob110, ob111, ob112, ob113, ob114, ob115 P, ob116, ob117, ob118, ob119, ob120, ob121 P, ob122, ob123, ob124, ob125, ob126, ob127 P, ob128, ob129, ob130, ob131, ob132, ob133 P, ob134, ob135, ob136, ob137, ob138, ob139 P, ob140, ob141, ob142, ob143, ob144, ob145 P, ob146, ob147, ob148, ob149, ob150, ob151 P, ob152, ob153, ob154, ob155, ob156, ob157, ob158, ob159, ob160, ob161, ob162, ob163, ob164, ob165, ob166, ob167, ob168, ob169, ob170, ob171, ob172, ob173, ob174, ob175, ob176, ob177, ob178, ob179, ob180, ob181, ob182, ob183, ob184, ob185, ob186, ob187, ob188, ob189, ob190, ob191, ob192, ob193, ob194, ob195, ob196, ob197, ob198, ob199, ob200, ob201, ob202, ob203, ob204, ob205, ob206, ob207, ob208, ob209, ob210, ob211, ob212, ob213, ob214, ob215, ob216, ob217, ob218, ob219, ob220, ob221, ob222, ob223, ob224, ob225, ob226, ob227, ob228, ob229, ob230, ob231, ob232, ob233, ob234, ob235, ob236, ob237, ob238, ob239, ob240, ob241, ob242, ob243, ob244, ob245, ob246, ob247, ob248, ob249, ob250, ob251 P, ob252, ob253, ob254, ob255, ob256, ob257, ob258, ob259, ob260, ob261, ob262, ob263, ob264, ob265, ob266, ob267, ob268, ob269, ob270, ob271, ob272, ob273, ob274, ob275, ob276, ob277, ob278, ob279, ob280, ob281, ob282, ob283, ob284, ob285, ob286, ob287, ob288, ob289, ob290, ob291, ob292 P, ob293, ob294, ob295, ob296, ob297, ob298, ob299, ob300 P, ob301, ob302, ob303, ob304, ob305, ob306, ob307, ob308, ob309, ob310, ob311, ob312, ob313, ob314, ob315, ob316, ob317, ob318, ob319, ob320, ob321, ob322, ob323, ob324, ob325, ob326, ob327, ob328, ob329, ob330, ob331, ob332, ob333, ob334, ob335, ob336, ob337, ob338, ob339, ob340, ob341, ob342, ob343, ob344, ob345, ob346, ob347, ob348, ob349, ob350, ob351 P, ob352, ob353, ob354, ob355, ob356, ob357 P, ob358, ob359, ob360, ob361, ob362, ob363, ob364, ob365, ob366, ob367, ob368, ob369, ob370, ob371, ob372, ob373, ob374, ob375, ob376, ob377, ob378, ob379, ob380, ob381, ob382, ob383, ob384 P, ob385, ob386, ob387]⟩, {}⟩
noncomputable def hp6 (P : Params) : Heap := ⟨⟨[boot_o_0 P, boot_o_1 P, boot_o_2 P, ob3''' P, boot_o_4 P, boot_o_5 P, boot_o_6 P, boot_o_7 P, boot_o_8 P, boot_o_9 P, boot_o_10 P, ob11, ob12'''', ob13, ob14, ob15, ob16, ob17 P, ob18, ob19, ob20, ob21, ob22, ob23 P, ob24', ob25, ob26, ob27, ob28, ob29, ob30 P, ob31, ob32, ob33, ob34, ob35, ob36 P, ob37, ob38, ob39, ob40, ob41, ob42 P, ob43, ob44, ob45, ob46, ob47, ob48 P, ob49, ob50, ob51, ob52, ob53, ob54 P, ob55, ob56, ob57, ob58, ob59, ob60 P, ob61, ob62, ob63, ob64, ob65, ob66 P, ob67, ob68, ob69, ob70, ob71, ob72, ob73, ob74, ob75, ob76, ob77, ob78, ob79 P, ob80, ob81, ob82, ob83, ob84, ob85 P, ob86, ob87, ob88, ob89, ob90, ob91 P, ob92, ob93, ob94, ob95, ob96, ob97 P, ob98, ob99, ob100, ob101, ob102, ob103 P, ob104, ob105, ob106, ob107, ob108, ob109 P, ob110, ob111, ob112, ob113, ob114, ob115 P, ob116, ob117, ob118, ob119, ob120, ob121 P, ob122, ob123, ob124, ob125, ob126, ob127 P, ob128, ob129, ob130, ob131, ob132, ob133 P, ob134, ob135, ob136, ob137, ob138, ob139 P, ob140, ob141, ob142, ob143, ob144, ob145 P, ob146, ob147, ob148, ob149, ob150, ob151 P, ob152, ob153, ob154, ob155, ob156, ob157, ob158, ob159, ob160, ob161, ob162, ob163, ob164, ob165, ob166, ob167, ob168, ob169, ob170, ob171, ob172, ob173, ob174, ob175, ob176, ob177, ob178, ob179, ob180, ob181, ob182, ob183, ob184, ob185, ob186, ob187, ob188, ob189, ob190, ob191, ob192, ob193, ob194, ob195, ob196, ob197, ob198, ob199, ob200, ob201, ob202, ob203, ob204, ob205, ob206, ob207, ob208, ob209, ob210, ob211, ob212, ob213, ob214, ob215, ob216, ob217, ob218, ob219, ob220, ob221, ob222, ob223, ob224, ob225, ob226, ob227, ob228, ob229, ob230, ob231, ob232, ob233, ob234, ob235, ob236, ob237, ob238, ob239, ob240, ob241, ob242, ob243, ob244, ob245, ob246, ob247, ob248, ob249, ob250, ob251 P, ob252, ob253, ob254, ob255, ob256, ob257, ob258, ob259, ob260, ob261, ob262, ob263, ob264, ob265, ob266, ob267, ob268, ob269, ob270, ob271, ob272, ob273, ob274, ob275, ob276, ob277, ob278, ob279, ob280, ob281, ob282, ob283, ob284, ob285, ob286, ob287, ob288, ob289, ob290, ob291, ob292 P, ob293', ob294, ob295, ob296, ob297, ob298, ob299, ob300 P, ob301, ob302, ob303, ob304, ob305, ob306, ob307, ob308, ob309, ob310, ob311, ob312, ob313, ob314, ob315, ob316, ob317, ob318, ob319, ob320, ob321, ob322, ob323, ob324, ob325, ob326, ob327, ob328, ob329, ob330, ob331, ob332, ob333, ob334, ob335, ob336, ob337, ob338, ob339, ob340, ob341, ob342, ob343, ob344, ob345, ob346, ob347, ob348, ob349, ob350, ob351 P, ob352, ob353, ob354, ob355, ob356, ob357 P, ob358, ob359, ob360, ob361, ob362, ob363, ob364, ob365, ob366, ob367, ob368, ob369, ob370, ob371, ob372, ob373, ob374, ob375, ob376, ob377, ob378, ob379, ob380, ob381, ob382, ob383, ob384 P, ob385, ob386, ob387, ob388, ob389, ob390 P, ob391, ob392, ob393, ob394, ob395, ob396, ob397, ob398, ob399, ob400, ob401, ob402, ob403, ob404, ob405, ob406, ob407, ob408, ob409, ob410, ob411, ob412, ob413, ob414, ob415, ob416, ob417, ob418, ob419, ob420, ob421, ob422, ob423, ob424, ob425, ob426, ob427, ob428, ob429, ob430, ob431 P, ob432, ob433, ob434, ob435, ob436, ob437 P, ob438, ob439, ob440, ob441, ob442, ob443, ob444, ob445, ob446, ob447, ob448, ob449, ob450, ob451, ob452, ob453, ob454, ob455, ob456, ob457, ob458, ob459, ob460, ob461, ob462, ob463, ob464, ob465, ob466, ob467, ob468, ob469, ob470, ob471 P, ob472, ob473, ob474, ob475, ob476, ob477, ob478, ob479, ob480, ob481, ob482, ob483, ob484, ob485, ob486, ob487, ob488, ob489, ob490, ob491, ob492, ob493, ob494, ob495, ob496, ob497, ob498, ob499, ob500, ob501, ob502, ob503, ob504, ob505, ob506, ob507, ob508, ob509, ob510, ob511, ob512, ob513 P, ob514, ob515, ob516, ob517, ob518, ob519, ob520, ob521, ob522, ob523, ob524, ob525, ob526, ob527, ob528, ob529, ob530, ob531, ob532, ob533, ob534, ob535, ob536, ob537, ob538, ob539, ob540, ob541, ob542, ob543, ob544, ob545, ob546 P, ob547, ob548, ob549, ob550, ob551]⟩, {}⟩
noncomputable def hp7 (P : Params) : Heap := ⟨⟨[boot_o_0 P, boot_o_1 P, boot_o_2 P, ob3'''' P, boot_o_4 P, boot_o_5 P, boot_o_6 P, boot_o_7 P, boot_o_8 P, boot_o_9 P, boot_o_10 P, ob11, ob12''''', ob13, ob14, ob15, ob16, ob17 P, ob18, ob19, ob20, ob21, ob22, ob23 P, ob24', ob25, ob26, ob27, ob28, ob29, ob30 P, ob31, ob32, ob33, ob34, ob35, ob36 P, ob37, ob38, ob39, ob40, ob41, ob42 P, ob43, ob44, ob45, ob46, ob47, ob48 P, ob49, ob50, ob51, ob52, ob53, ob54 P, ob55, ob56, ob57, ob58, ob59, ob60 P, ob61, ob62, ob63, ob64, ob65, ob66 P, ob67, ob68, ob69, ob70, ob71, ob72, ob73, ob74, ob75, ob76, ob77, ob78, ob79 P, ob80, ob81, ob82, ob83, ob84, ob85 P, ob86, ob87, ob88, ob89, ob90, ob91 P, ob92, ob93, ob94, ob95, ob96, ob97 P, ob98, ob99, ob100, ob101, ob102, ob103 P, ob104, ob105, ob106, ob107, ob108, ob109 P, ob110, ob111, ob112, ob113, ob114, ob115 P, ob116, ob117, ob118, ob119, ob120, ob121 P, ob122, ob123, ob124, ob125, ob126, ob127 P, ob128, ob129, ob130, ob131, ob132, ob133 P, ob134, ob135, ob136, ob137, ob138, ob139 P, ob140, ob141, ob142, ob143, ob144, ob145 P, ob146, ob147, ob148, ob149, ob150, ob151 P, ob152, ob153, ob154, ob155, ob156, ob157, ob158, ob159, ob160, ob161, ob162, ob163, ob164, ob165, ob166, ob167, ob168, ob169, ob170, ob171, ob172, ob173, ob174, ob175, ob176, ob177, ob178, ob179, ob180, ob181, ob182, ob183, ob184, ob185, ob186, ob187, ob188, ob189, ob190, ob191, ob192, ob193, ob194, ob195, ob196, ob197, ob198, ob199, ob200, ob201, ob202, ob203, ob204, ob205, ob206, ob207, ob208, ob209, ob210, ob211, ob212, ob213, ob214, ob215, ob216, ob217, ob218, ob219, ob220, ob221, ob222, ob223, ob224, ob225, ob226, ob227, ob228, ob229, ob230, ob231, ob232, ob233, ob234, ob235, ob236, ob237, ob238, ob239, ob240, ob241, ob242, ob243, ob244, ob245, ob246, ob247, ob248, ob249, ob250, ob251 P, ob252, ob253, ob254, ob255, ob256, ob257, ob258, ob259, ob260, ob261, ob262, ob263, ob264, ob265, ob266, ob267, ob268, ob269, ob270, ob271, ob272, ob273, ob274, ob275, ob276, ob277, ob278, ob279, ob280, ob281, ob282, ob283, ob284, ob285, ob286, ob287, ob288, ob289, ob290, ob291, ob292 P, ob293', ob294, ob295, ob296, ob297, ob298, ob299, ob300 P, ob301, ob302, ob303, ob304, ob305, ob306, ob307, ob308, ob309, ob310, ob311, ob312, ob313, ob314, ob315, ob316, ob317, ob318, ob319, ob320, ob321, ob322, ob323, ob324, ob325, ob326, ob327, ob328, ob329, ob330, ob331, ob332, ob333, ob334, ob335, ob336, ob337, ob338, ob339, ob340, ob341, ob342, ob343, ob344, ob345, ob346, ob347, ob348, ob349, ob350, ob351 P, ob352, ob353, ob354, ob355, ob356, ob357 P, ob358, ob359, ob360, ob361, ob362, ob363, ob364, ob365, ob366, ob367, ob368, ob369, ob370, ob371, ob372, ob373, ob374, ob375, ob376, ob377, ob378, ob379, ob380, ob381, ob382, ob383, ob384 P, ob385, ob386, ob387, ob388, ob389, ob390 P, ob391, ob392, ob393, ob394, ob395, ob396, ob397, ob398, ob399, ob400, ob401, ob402, ob403, ob404, ob405, ob406, ob407, ob408, ob409, ob410, ob411, ob412, ob413, ob414, ob415, ob416, ob417, ob418, ob419, ob420, ob421, ob422, ob423, ob424, ob425, ob426, ob427, ob428, ob429, ob430, ob431 P, ob432, ob433, ob434, ob435, ob436, ob437 P, ob438, ob439, ob440, ob441, ob442, ob443, ob444, ob445, ob446, ob447, ob448, ob449, ob450, ob451, ob452, ob453, ob454, ob455, ob456, ob457, ob458, ob459, ob460, ob461, ob462, ob463, ob464, ob465, ob466, ob467, ob468, ob469, ob470, ob471 P, ob472, ob473, ob474, ob475, ob476, ob477, ob478, ob479, ob480, ob481, ob482, ob483, ob484, ob485, ob486, ob487, ob488, ob489, ob490, ob491, ob492, ob493, ob494, ob495, ob496, ob497, ob498, ob499, ob500, ob501, ob502, ob503, ob504, ob505, ob506, ob507, ob508, ob509, ob510, ob511, ob512, ob513 P, ob514, ob515, ob516, ob517, ob518, ob519, ob520, ob521, ob522, ob523, ob524, ob525, ob526, ob527, ob528, ob529, ob530, ob531, ob532, ob533, ob534, ob535, ob536, ob537, ob538, ob539, ob540, ob541, ob542, ob543, ob544, ob545, ob546 P, ob547, ob548, ob549, ob550, ob551, ob552, ob553, ob554, ob555, ob556, ob557, ob558, ob559, ob560, ob561, ob562, ob563, ob564, ob565, ob566, ob567, ob568, ob569, ob570, ob571, ob572, ob573, ob574, ob575, ob576, ob577, ob578, ob579, ob580, ob581, ob582, ob583, ob584, ob585, ob586, ob587, ob588, ob589, ob590, ob591, ob592, ob593, ob594, ob595, ob596, ob597, ob598, ob599, ob600, ob601, ob602, ob603, ob604, ob605, ob606, ob607, ob608, ob609, ob610, ob611, ob612, ob613, ob614, ob615, ob616, ob617, ob618, ob619, ob620, ob621, ob622, ob623, ob624, ob625, ob626, ob627, ob628, ob629, ob630, ob631, ob632, ob633, ob634, ob635, ob636, ob637, ob638, ob639, ob640, ob641, ob642, ob643, ob644, ob645, ob646, ob647, ob648, ob649, ob650]⟩, {}⟩
set_option maxHeartbeats 0 in
theorem pc_pre (w : World) (os : OsState) : topGo treeTable PySem.Challenge.pw_sumcraft_k56_terms_refused w 11 (some (.ref 6)) 12 (⟨boot_heap w.params, Array.mk [], boot_drawn, boot_toks, os⟩ : Shared) (topStub PySem.Challenge.pw_sumcraft_k56_terms_refused) = some ((⟨hp1 w.params, #[], {}, 187, os⟩ : Shared), ⟨denote treeTable cd0, cd0, { line := 0, col := 0, endLine := 0, endCol := 0 }, fr0⟩) := by kernel_rfl
set_option maxHeartbeats 0 in
theorem pc_blk (w : World) (os : OsState) : segRun treeTable PySem.Challenge.pw_sumcraft_k56_terms_refused w 11 (some (.ref 6)) 1 1 (⟨hp1 w.params, #[], {}, 187, os⟩ : Shared) (blockOf (behindTheImports PySem.Challenge.pw_sumcraft_k56_terms_refused) env0 cd0 { line := 0, col := 0, endLine := 0, endCol := 0 } fr0) = some (.next, (⟨hp1 w.params, #[], {}, 187, os⟩ : Shared), cd0, { line := 0, col := 0, endLine := 0, endCol := 0 }) := by kernel_rfl
def gl3 : List Stmt := [top 0, top 1, top 2, top 3, top 4, top 5, top 6]
set_option maxHeartbeats 0 in
theorem pc3 (w : World) (os : OsState) : segRun treeTable PySem.Challenge.pw_sumcraft_k56_terms_refused w 11 (some (.ref 6)) 1 1293 (⟨hp1 w.params, #[], {}, 187, os⟩ : Shared) (piecesOf gl3 env0 cd0 { line := 0, col := 0, endLine := 0, endCol := 0 } fr0) = some (.next, (⟨hp3 w.params, #[], {}, 296, os⟩ : Shared), cd0, { line := 15, col := 0, endLine := 16, endCol := 8 }) := by kernel_rfl
def gl4 : List Stmt := [top 7, top 8, top 9, top 10, top 11, top 12, top 13, top 14, top 15, top 16, top 17]
set_option maxHeartbeats 0 in
theorem pc4 (w : World) (os : OsState) : segRun treeTable PySem.Challenge.pw_sumcraft_k56_terms_refused w 11 (some (.ref 6)) 1 1206 (⟨hp3 w.params, #[], {}, 296, os⟩ : Shared) (piecesOf gl4 env0 cd0 { line := 15, col := 0, endLine := 16, endCol := 8 } fr0) = some (.next, (⟨hp4 w.params, #[], {}, 416, os⟩ : Shared), cd0, { line := 44, col := 0, endLine := 44, endCol := 8 }) := by kernel_rfl
def gl5 : List Stmt := [top 18, top 19, top 20, top 21, top 22, top 23, top 24, top 25, top 26, top 27, top 28, top 29, top 30, top 31, top 32, top 33, top 34]
set_option maxHeartbeats 0 in
theorem pc5 (w : World) (os : OsState) : segRun treeTable PySem.Challenge.pw_sumcraft_k56_terms_refused w 11 (some (.ref 6)) 1 1457 (⟨hp4 w.params, #[], {}, 416, os⟩ : Shared) (piecesOf gl5 env0 cd0 { line := 44, col := 0, endLine := 44, endCol := 8 } fr0) = some (.next, (⟨hp5 w.params, #[], {}, 709, os⟩ : Shared), cd0, { line := 160, col := 0, endLine := 169, endCol := 64 }) := by kernel_rfl
def gl6 : List Stmt := [top 35, top 36, top 37, top 38, top 39, top 40, top 41, top 42, top 43, top 44, top 45, top 46, top 47]
set_option maxHeartbeats 0 in
theorem pc6 (w : World) (os : OsState) : segRun treeTable PySem.Challenge.pw_sumcraft_k56_terms_refused w 11 (some (.ref 6)) 1 1277 (⟨hp5 w.params, #[], {}, 709, os⟩ : Shared) (piecesOf gl6 env0 cd0 { line := 160, col := 0, endLine := 169, endCol := 64 } fr0) = some (.next, (⟨hp6 w.params, #[], {}, 935, os⟩ : Shared), cd0, { line := 237, col := 0, endLine := 258, endCol := 32 }) := by kernel_rfl
def gl7 : List Stmt := [top 48, top 49, top 50, top 51, top 52, top 53, top 54, top 55, top 56, top 57, top 58, top 59, top 60, top 61, top 62, top 63]
set_option maxHeartbeats 0 in
theorem pc7 (w : World) (os : OsState) : segRun treeTable PySem.Challenge.pw_sumcraft_k56_terms_refused w 11 (some (.ref 6)) 1 474 (⟨hp6 w.params, #[], {}, 935, os⟩ : Shared) (piecesOf gl7 env0 cd0 { line := 237, col := 0, endLine := 258, endCol := 32 } fr0) = some (.next, (⟨hp7 w.params, #[], {}, 1077, os⟩ : Shared), cd0, { line := 386, col := 0, endLine := 401, endCol := 50 }) := by kernel_rfl
set_option maxHeartbeats 0 in
theorem pc_fin (w : World) (os : OsState) : topRun treeTable PySem.Challenge.pw_sumcraft_k56_terms_refused w 11 (some (.ref 6)) 2 (⟨hp7 w.params, #[], {}, 1077, os⟩ : Shared) ⟨doneF .next, cd0, { line := 386, col := 0, endLine := 401, endCol := 50 }, fr0⟩ = some (⟨hp7 w.params, #[], {}, 1077, os⟩ : Shared) := by kernel_rfl
theorem body_is : behindTheImports PySem.Challenge.pw_sumcraft_k56_terms_refused = gl3 ++ (gl4 ++ (gl5 ++ (gl6 ++ (gl7 ++ [])))) := by kernel_rfl
theorem run0 (w : World) (os : OsState) : topRun treeTable PySem.Challenge.pw_sumcraft_k56_terms_refused w 11 (some (.ref 6)) (12 + (1 + (1293 + (1206 + (1457 + (1277 + (474 + 2))))))) (⟨boot_heap w.params, Array.mk [], boot_drawn, boot_toks, os⟩ : Shared) (topStub PySem.Challenge.pw_sumcraft_k56_terms_refused) = some (⟨hp7 w.params, #[], {}, 1077, os⟩ : Shared) :=
 go_top (pc_pre w os) (piece_block (pc_blk w os) (by
  rw [body_is]
  exact piece_app (pc3 w os) (piece_app (pc4 w os) (piece_app (pc5 w os) (piece_app (pc6 w os) (piece_app (pc7 w os) (piece_nil (pc_fin w os))))))))
def KK (P : Params) : Frag := [(3, ob3'''' P), (17, ob17 P), (23, ob23 P), (24, ob24'), (30, ob30 P), (36, ob36 P), (37, ob37), (42, ob42 P), (48, ob48 P), (49, ob49), (54, ob54 P), (60, ob60 P), (61, ob61), (66, ob66 P), (79, ob79 P), (80, ob80), (85, ob85 P), (91, ob91 P), (92, ob92), (97, ob97 P), (103, ob103 P), (104, ob104), (109, ob109 P), (115, ob115 P), (116, ob116), (121, ob121 P), (127, ob127 P), (128, ob128), (133, ob133 P), (139, ob139 P), (140, ob140), (145, ob145 P), (151, ob151 P), (152, ob152), (226, ob226), (227, ob227), (251, ob251 P), (292, ob292 P), (293, ob293'), (300, ob300 P), (310, ob310), (311, ob311), (351, ob351 P), (352, ob352), (357, ob357 P), (367, ob367), (368, ob368), (384, ob384 P), (385, ob385), (390, ob390 P), (400, ob400), (401, ob401), (431, ob431 P), (432, ob432), (437, ob437 P), (447, ob447), (448, ob448), (471, ob471 P), (472, ob472), (475, ob475), (476, ob476), (477, ob477), (481, ob481), (482, ob482), (488, ob488), (489, ob489), (495, ob495), (496, ob496), (502, ob502), (503, ob503), (513, ob513 P), (521, ob521), (522, ob522), (528, ob528), (529, ob529), (546, ob546 P), (547, ob547), (557, ob557), (558, ob558), (564, ob564), (565, ob565), (571, ob571), (572, ob572), (578, ob578), (579, ob579), (585, ob585), (586, ob586), (592, ob592), (593, ob593), (597, ob597), (598, ob598), (602, ob602), (603, ob603), (607, ob607), (608, ob608), (614, ob614), (615, ob615), (621, ob621), (622, ob622), (628, ob628), (629, ob629), (635, ob635), (636, ob636), (642, ob642), (643, ob643), (649, ob649), (650, ob650)]
def KA : List Addr := [3, 17, 23, 24, 30, 36, 37, 42, 48, 49, 54, 60, 61, 66, 79, 80, 85, 91, 92, 97, 103, 104, 109, 115, 116, 121, 127, 128, 133, 139, 140, 145, 151, 152, 226, 227, 251, 292, 293, 300, 310, 311, 351, 352, 357, 367, 368, 384, 385, 390, 400, 401, 431, 432, 437, 447, 448, 471, 472, 475, 476, 477, 481, 482, 488, 489, 495, 496, 502, 503, 513, 521, 522, 528, 529, 546, 547, 557, 558, 564, 565, 571, 572, 578, 579, 585, 586, 592, 593, 597, 598, 602, 603, 607, 608, 614, 615, 621, 622, 628, 629, 635, 636, 642, 643, 649, 650]
def qv : Program := view PySem.Challenge.pw_sumcraft_k56_terms_refused [1, 2, 3, 4, 5, 6, 7, 8, 9, 10, 11, 13, 14, 15, 16, 18, 19, 20, 21, 22, 24, 25, 26, 27, 28, 29, 30, 31, 32, 33, 34, 35, 36, 38, 39, 40, 41, 42, 43, 44, 45, 46, 47, 49, 50, 51, 52, 53, 54, 55, 56, 57, 58, 59, 60, 61, 62, 63]
def xt (s : Shared) : Bool := xlAt qv [] s && recOk (PySem.Challenge.rw_sumcraft_k56_terms_refused.row.toRowW).records s
def hk : Hook := kHook KK KA fun _ => rfl
set_option maxHeartbeats 0 in
theorem left : LeftO PySem.Challenge.pw_sumcraft_k56_terms_refused qv [] xt hk.obs hk.val 11530 :=
 LeftO.of_pieces (H₀ := boot_heap) (H₁ := hp7) (gs₁ := #[]) (d₁ := {}) (k₁ := 1077)
  (boot_open (by kernel_rfl) rfl fun s => by kernel_rfl)
  (fun w => by kernel_rfl) run0 (by kernel_rfl)
  fun w => by kernel_rfl
set_option maxHeartbeats 0 in
theorem h_well : PySem.Challenge.rw_sumcraft_k56_terms_refused.wellSaid = true := by kernel_rfl
set_option maxHeartbeats 0 in
theorem h_bare : PySem.Challenge.rw_sumcraft_k56_terms_refused.row.prog.bare := ⟨rfl, rfl, rfl, rfl, rfl, by decide +kernel⟩
end My
namespace L2
open PySem PySem.Spec PyProof.Rows
abbrev Key := Sum Int Str
def keyIs : Key -> Value -> Bool
 | .inl k, v => Value.isInt k v
 | .inr x, v => Value.isStrOf x v
def keyH (w : World) : Key -> Int
 | .inl k => hashInt k
 | .inr x => hashStr w x
theorem keyIs_shape : ∀ {k : Key} {v : Value}, keyIs k v = true -> (∃ i t, k = Sum.inl i ∧ v = Value.int i t) ∨ (∃ x t, k = Sum.inr x ∧ v = Value.str x t)
 | .inl i, v, h => by
  obtain ⟨t, e⟩ := Value.isInt_shape (k := i) (v := v) h
  exact .inl ⟨i, t, rfl, e⟩
 | .inr x, v, h => by
  obtain ⟨t, e⟩ := Value.isStrOf_shape (x := x) (v := v) h
  exact .inr ⟨x, t, rfl, e⟩
theorem key_ll (a b : Int) : decide ((Sum.inl a : Key) = Sum.inl b) = (a == b) := by
 by_cases e : a = b
 ·subst e; simp
 ·have h : ¬ (Sum.inl a : Key) = Sum.inl b := fun q => e (Sum.inl.inj q)
  rw [decide_eq_false h]
  exact (beq_eq_false_iff_ne.mpr e).symm
theorem key_rr (a b : Str) : decide ((Sum.inr a : Key) = Sum.inr b) = decide (a = b) := by
 by_cases e : a = b
 ·subst e; simp
 ·have h : ¬ (Sum.inr a : Key) = Sum.inr b := fun q => e (Sum.inr.inj q)
  rw [decide_eq_false h, decide_eq_false e]
theorem key_lr (a : Int) (b : Str) : decide ((Sum.inl a : Key) = Sum.inr b) = false := decide_eq_false (fun q => nomatch q)
theorem key_rl (a : Str) (b : Int) : decide ((Sum.inr a : Key) = Sum.inl b) = false := decide_eq_false (fun q => nomatch q)
def mixKind (prog : Program) (w : World) : PySem.KeyKind prog w Key where
 is := keyIs
 hash := keyH w
 inj := fun v a b ha hb => by
  rcases keyIs_shape ha with ⟨i, t, rfl, rfl⟩ | ⟨x, t, rfl, rfl⟩
  ·rcases keyIs_shape hb with ⟨j, u, rfl, e⟩ | ⟨y, u, rfl, e⟩
   ·injection e with e1 _; rw [e1]
   ·exact nomatch e
  ·rcases keyIs_shape hb with ⟨j, u, rfl, e⟩ | ⟨y, u, rfl, e⟩
   ·exact nomatch e
   ·injection e with e1 _; rw [e1]
 byValue := fun k v h => by
  rcases keyIs_shape h with ⟨i, t, rfl, rfl⟩ | ⟨x, t, rfl, rfl⟩ <;> rfl
 pyHash := fun hv h => by
  rcases keyIs_shape hv with ⟨i, t, rfl, rfl⟩ | ⟨x, t, rfl, rfl⟩
  ·exact wpAny_pyHash_int h
  ·exact wpAny_pyHash_str h
 eqBool := fun hu hv h => by
  rcases keyIs_shape hu with ⟨i, t, rfl, rfl⟩ | ⟨x, t, rfl, rfl⟩
  ·rcases keyIs_shape hv with ⟨j, u, rfl, rfl⟩ | ⟨y, u, rfl, rfl⟩
   ·rw [key_ll] at h; exact wpAny_eqBool_int h
   ·rw [key_lr] at h; exact SeqAt.EqAt.int_str i t y u _ _ _ _ h
  ·rcases keyIs_shape hv with ⟨j, u, rfl, rfl⟩ | ⟨y, u, rfl, rfl⟩
   ·rw [key_rl] at h; exact SeqAt.EqAt.str_int x t j u _ _ _ _ h
   ·rw [key_rr] at h; exact wpAny_eqBool_str h
 «strs» := fun k x t v h => by
  rcases keyIs_shape h with ⟨i, u, rfl, e⟩ | ⟨y, u, rfl, e⟩
  ·exact nomatch e
  ·injection e with e1 _
   subst e1
   cases v <;> rfl
end L2
namespace L2
open PySem PySem.Spec PyProof.Rows
inductive V where
 | non | bl (b : Bool) | int (i : Int) | str (x : Str) | byt (b : Array UInt8) | flt (b : UInt64) | ref (a : Addr) | ty (n : String)
 deriving DecidableEq
def RelV : V -> Value -> Prop
 | .non, u => u = Value.none
 | .bl b, u => u = Value.bool b
 | .int i, u => ∃ t, u = Value.int i t
 | .str x, u => ∃ t, u = Value.str x t
 | .byt b, u => ∃ t, u = Value.bytes b t
 | .flt b, u => ∃ t, u = Value.float b t
 | .ref a, u => u = Value.ref a
 | .ty n, u => u = Value.type n
abbrev Vals : List V -> List Value -> Prop := Paired RelV
theorem Vals.length {xs : List V} {us : List Value} (r : Vals xs us) : xs.length = us.length := Paired.length r
theorem Vals.get : ∀ {xs : List V} {us : List Value} {i : Nat} {x : V}, Vals xs us -> xs[i]? = some x -> ∃ u, us[i]? = some u ∧ RelV x u
 | _, _, _, _, .nil, e => by simp at e
 | _, _, 0, _, .cons r _, e => by simp at e; subst e; exact ⟨_, rfl, r⟩
 | _, _, i + 1, x, .cons _ t, e => by
  obtain ⟨u, h1, h2⟩ := Vals.get (i := i) (x := x) t (by simpa using e)
  exact ⟨u, by simpa using h1, h2⟩
theorem Vals.set {x : V} {u : Value} (r : RelV x u) : ∀ {xs : List V} {us : List Value} (i : Nat), Vals xs us -> Vals (xs.set i x) (us.set i u)
 | _, _, _, .nil => .nil
 | _, _, 0, .cons _ t => .cons r t
 | _, _, i + 1, .cons q t => .cons q (Vals.set r i t)
theorem Vals.append : ∀ {xs ys : List V} {us ws : List Value}, Vals xs us -> Vals ys ws -> Vals (xs ++ ys) (us ++ ws)
 | _, _, _, _, .nil, s => s
 | _, _, _, _, .cons r t, s => .cons r (Vals.append t s)
theorem Vals.take : ∀ {xs : List V} {us : List Value} (n : Nat), Vals xs us -> Vals (xs.take n) (us.take n)
 | _, _, 0, _ => .nil
 | _, _, _ + 1, .nil => .nil
 | _, _, n + 1, .cons r t => .cons r (Vals.take n t)
theorem Vals.drop : ∀ {xs : List V} {us : List Value} (n : Nat), Vals xs us -> Vals (xs.drop n) (us.drop n)
 | _, _, 0, r => r
 | _, _, _ + 1, .nil => .nil
 | _, _, n + 1, .cons _ t => Vals.drop n t
def RelO : Option V -> Option Value -> Prop
 | some v, some u => RelV v u
 | none, none => True
 | _, _ => False
def KV {κ : Type} : List (κ × V) -> List (κ × Value) -> Prop := Paired fun (p : κ × V) (q : κ × Value) => p.1 = q.1 ∧ RelV p.2 q.2
def kV : Key -> V
 | .inl i => .int i
 | .inr x => .str x
inductive HO where
  | lst (xs : List V)
  | tup (xs : List V)
  | dK (kvs : List (Key × V)) | dT (kvs : List (List Key × V))
  | set (S : Int -> Bool) (n : Nat)
  | ins (C dx : Addr) (fs : List (Str × V))
  | own (x : Addr)
  | xd (fs : List (Str × V))
  | met (f x : Addr)
  | rng (lo hi : Int)
  | frz (o : Obj) (u : HO)
  | tbl (ps : Array Value)
  | ext (φ : Heap -> Prop)
abbrev Hp := Addr -> Option HO
def upd (H : Hp) (a : Addr) (o : HO) : Hp := fun b => if b = a then some o else H b
theorem upd_same {H : Hp} {a : Addr} {o : HO} : upd H a o a = some o := by unfold upd; rw [if_pos rfl]
theorem upd_ne {H : Hp} {a b : Addr} {o : HO} (h : b ≠ a) : upd H a o b = H b := by unfold upd; rw [if_neg h]
theorem ne_of {H : Hp} {a b : Addr} {o u : HO} (h : H a = some o) (h' : H b = some u) (d : o ≠ u) : a ≠ b := by
 intro e; subst e; rw [h] at h'; exact d (Option.some.inj h')
theorem ne_of_none {H : Hp} {a b : Addr} {o : HO} (h : H a = some o) (h' : H b = none) : a ≠ b := by
 intro e; subst e; rw [h] at h'; cases h'
section
variable (P : Program) (w : World)
def ObjOk (H : Hp) (h : Heap) (a : Addr) : HO -> Prop
 | .lst xs => xs.length <= sizeLine ∧ ∃ (its : List Value) (n : Nat), Vals xs its ∧ h.get? a = some { cls := .type "list", data := .seq its.toArray n }
 | .tup xs => xs.length <= sizeLine ∧ ∃ its : List Value, Vals xs its ∧ IsTup h a its.toArray
 | .dK kvs => kvs.length <= sizeLine ∧ (a == sysModules) = false ∧ ∃ vs, KV kvs vs ∧ h.DictOf (mixKind P w) a vs
 | .dT kvs => kvs.length <= sizeLine ∧ (a == sysModules) = false ∧ ∃ xs : List (List Key × Addr × Value),
   Paired (fun (p : List Key × V) (q : List Key × Addr × Value) => p.1 = q.1 ∧ H q.2.1 = some (.tup (p.1.map kV)) ∧ RelV p.2 q.2.2) kvs xs ∧
   ∃ o es ep, h.get? a = some o ∧ o.ExactDict ∧ o.data = .dict es ep ∧ es.toList = xs.map (entryOfKey (tupleKind (mixKind P w))) ∧ (xs.map (·.1)).Nodup
 | .set S n => h.SetOf (intKind P w) a S n
 | .ins C dx fs => H dx = some (.own a) ∧ fs.length <= 1000 ∧ dx ≠ a ∧ h.get? a = some (PySem.W.instObj C dx) ∧
   ∃ mA, h.Ns1 dx mA ∧ (∀ f, RelO (fs.lookup f) (mA f)) ∧ PySem.Within mA (fs.map (·.1))
 | .own _ => ∃ o, h.get? a = some o
 | .xd fs => ∃ mA, h.Ns1 a mA ∧ ∀ f, RelO (fs.lookup f) (mA f)
 | .rng lo hi => ∃ t u v, h.get? a = some { cls := .type "range", data := .fields #[.int lo t, .int hi u, .int 1 v] }
 | .frz o u => h.get? a = some o ∧ ObjOk H h a u
 | .tbl ps => h.get? a = some { cls := .none, data := .fields ps }
 | .met f x => h.get? a = some (PySem.W.methodObj (.ref f) (.ref x))
 | .ext φ => φ h ∧ (∃ o, h.get? a = some o) ∧ ∀ h1 h2 : Heap, φ h1 -> (∀ o, h1.get? a = some o -> h2.get? a = some o) -> φ h2
def HOk (H : Hp) (h : Heap) : Prop := ∀ a o, H a = some o -> ObjOk P w H h a o
end
section
variable {P : Program} {w : World} {H H' : Hp} {h h' : Heap} {a : Addr} {o : HO}
theorem ObjOk.lt (x : ObjOk P w H h a o) : a < h.objs.size := by
 cases o with
 | lst xs => obtain ⟨_, _, _, _, e⟩ := x; exact Heap.lt_size e
 | tup xs => obtain ⟨_, _, _, p⟩ := x; exact p.lt
 | dK kvs => obtain ⟨_, _, _, _, o, _, _, e, _⟩ := x; exact Heap.lt_size e
 | dT kvs => obtain ⟨_, _, _, _, o, _, _, e, _⟩ := x; exact Heap.lt_size e
 | set S n => obtain ⟨o, _, _, _, e, _⟩ := x; exact Heap.lt_size e
 | ins C dx fs => obtain ⟨_, _, _, e, _⟩ := x; exact Heap.lt_size e
 | own y => obtain ⟨_, e⟩ := x; exact Heap.lt_size e
 | xd fs => obtain ⟨_, ⟨_, _, _, e, _⟩, _⟩ := x; exact Heap.lt_size e
 | rng lo hi => obtain ⟨_, _, _, e⟩ := x; exact Heap.lt_size e
 | frz ob u => obtain ⟨e, _⟩ := x; exact Heap.lt_size e
 | tbl ps => exact Heap.lt_size (show h.get? a = some _ from x)
 | met f y => exact Heap.lt_size (show h.get? a = some _ from x)
 | ext φ => obtain ⟨_, ⟨_, e⟩, _⟩ := x; exact Heap.lt_size e
theorem Paired.mapP {α β : Type} {F G : α -> β -> Prop} : ∀ {l₁ : List α} {l₂ : List β}, Paired F l₁ l₂ -> (∀ a b, F a b -> G a b) -> Paired G l₁ l₂
 | _, _, .nil, _ => .nil
 | _, _, .cons r t, f => .cons (f _ _ r) (Paired.mapP t f)
theorem ObjOk.stay (x : ObjOk P w H h a o) (k : ∀ b u, (b = a ∨ H b = some (.own a)) -> h.get? b = some u -> h'.get? b = some u)
  (ho : ∀ b, H b = some (.own a) -> H' b = some (.own a)) (ht : ∀ b xs, H b = some (.tup xs) -> H' b = some (.tup xs)) : ObjOk P w H' h' a o := by
 induction o with
 | lst xs => obtain ⟨z, its, n, r, e⟩ := x; exact ⟨z, its, n, r, k _ _ (.inl rfl) e⟩
 | tup xs => obtain ⟨z, its, r, ob, e, c⟩ := x; exact ⟨z, its, r, ob, k _ _ (.inl rfl) e, c⟩
 | dK kvs => obtain ⟨z, y, vs, r, ob, es, ep, e, c⟩ := x; exact ⟨z, y, vs, r, ob, es, ep, k _ _ (.inl rfl) e, c⟩
 | dT kvs =>
  obtain ⟨z, y, xs, r, ob, es, ep, e, c⟩ := x
  exact ⟨z, y, xs, Paired.mapP r fun p q z => ⟨z.1, ht _ _ z.2.1, z.2.2⟩, ob, es, ep, k _ _ (.inl rfl) e, c⟩
 | set S n => obtain ⟨ob, es, ep, t, e, c⟩ := x; exact ⟨ob, es, ep, t, k _ _ (.inl rfl) e, c⟩
 | ins C dx fs =>
  obtain ⟨d, z, ne, e, mA, ⟨od, es, ep, e2, c⟩, r⟩ := x
  exact ⟨ho _ d, z, ne, k _ _ (.inl rfl) e, mA, ⟨od, es, ep, k _ _ (.inr d) e2, c⟩, r⟩
 | own y => obtain ⟨ob, e⟩ := x; exact ⟨ob, k _ _ (.inl rfl) e⟩
 | xd fs => obtain ⟨mA, ⟨od, es, ep, e, c⟩, r⟩ := x; exact ⟨mA, ⟨od, es, ep, k _ _ (.inl rfl) e, c⟩, r⟩
 | rng lo hi => obtain ⟨t, u, v, e⟩ := x; exact ⟨t, u, v, k _ _ (.inl rfl) e⟩
 | frz ob u ih => obtain ⟨e, q⟩ := x; exact ⟨k _ _ (.inl rfl) e, ih q⟩
 | tbl ps =>
  have e : h.get? a = some { cls := .none, data := .fields ps } := x
  show h'.get? a = some { cls := .none, data := .fields ps }
  exact k a _ (.inl rfl) e
 | met f y =>
  have e : h.get? a = some (PySem.W.methodObj (.ref f) (.ref y)) := x
  show h'.get? a = some (PySem.W.methodObj (.ref f) (.ref y))
  exact k a _ (.inl rfl) e
 | ext φ => obtain ⟨p, ⟨o, e⟩, st⟩ := x; exact ⟨st _ _ p fun o q => k _ _ (.inl rfl) q, ⟨o, k _ _ (.inl rfl) e⟩, st⟩
theorem HOk.lt (x : HOk P w H h) (e : H a = some o) : a < h.objs.size := (x a o e).lt
theorem HOk.fresh (x : HOk P w H h) (e : h.objs.size <= a) : H a = none := by
 cases q : H a with
 | none => rfl
 | some u => exact absurd (Nat.lt_of_lt_of_le (x.lt q) e) (Nat.lt_irrefl _)
theorem HOk.kept (x : HOk P w H h) (k : ∀ b u, h.get? b = some u -> h'.get? b = some u) : HOk P w H h' := fun a o e =>
 (x a o e).stay (fun b u _ q => k b u q) (fun _ q => q) fun _ _ q => q
theorem HOk.laid (x : HOk P w H h) (k : ∀ b u, h.get? b = some u -> h'.get? b = some u) (hp : h.objs.size <= a) (new : ObjOk P w (upd H a o) h' a o) : HOk P w (upd H a o) h' := fun b u e => by
 have hn := x.fresh hp
 by_cases hb : b = a
 ·subst hb; rw [upd_same] at e; cases e; exact new
 ·rw [upd_ne hb] at e
  exact (x b u e).stay (fun c v _ q => k c v q) (fun c q => by rw [upd_ne (ne_of_none q hn)]; exact q) fun c xs q => by rw [upd_ne (ne_of_none q hn)]; exact q
end
def Rd (H : Hp) (a : Addr) (u : HO) : Prop := H a = some u ∨ ∃ o, H a = some (.frz o u)
theorem Rd.ok {P : Program} {w : World} {H : Hp} {h : Heap} {a : Addr} {u : HO} (r : Rd H a u) (x : HOk P w H h) : ObjOk P w H h a u := by
 rcases r with r | ⟨o, r⟩
 ·exact x a u r
 ·obtain ⟨_, q⟩ := x a _ r
  exact q
def Mut : Option HO -> Prop
 | some (.lst _) => True
 | some (.dK _) => True
 | some (.dT _) => True
 | some (.set _ _) => True
 | some (.ins _ _ _) => True
 | some (.ext _) => True
 | _ => False
section
variable {P : Program} {w : World} {H : Hp} {h h' : Heap} {x e : Addr} {o' : HO}
theorem HOk.write (ok : HOk P w H h) (mu : Mut (H x)) (he : e = x ∨ H e = some (.own x)) (k : ∀ b u, b ≠ e -> h.get? b = some u -> h'.get? b = some u) (heo : ∃ u, h'.get? e = some u)
  (new : ObjOk P w (upd H x o') h' x o') : HOk P w (upd H x o') h' := fun b u q => by
 have nown : ∀ c y, H c = some (.own y) -> c ≠ x := fun c y r z => by subst z; rw [r] at mu; exact mu
 have ntup : ∀ c xs, H c = some (.tup xs) -> c ≠ x := fun c xs r z => by subst z; rw [r] at mu; exact mu
 by_cases hb : b = x
 ·subst hb; rw [upd_same] at q; cases q; exact new
 ·rw [upd_ne hb] at q
  by_cases hbe : b = e
  ·have q' : H b = some (.own x) := by
    rcases he with z | z
    ·exact absurd (hbe.trans z) hb
    ·rw [hbe]; exact z
   rw [q] at q'; cases q'
   obtain ⟨v, hv⟩ := heo
   exact ⟨v, by rw [hbe]; exact hv⟩
  ·refine (ok b u q).stay (fun c v hc r => k c v ?_ r) (fun c r => by rw [upd_ne (nown c b r)]; exact r) fun c xs r => by rw [upd_ne (ntup c xs r)]; exact r
   rcases hc with rfl | hc
   ·exact hbe
   ·rintro rfl
    rcases he with z | z
    ·exact nown c b hc z
    ·rw [hc] at z; cases z; exact hb rfl
end
structure Un (fs ex : List Addr) (H H' : Hp) (h h' : Heap) : Prop where
 keep : ∀ b o, h.get? b = some o -> H b = none -> b ∉ fs -> b ∉ ex -> h'.get? b = some o
 slot : ∀ b o, h.get? b = some o -> H b = none -> b ∈ fs -> b ∉ ex -> ∃ sl, h'.get? b = some { o with slots := sl }
 free : ∀ b o, h.get? b = some o -> H b = none -> b ∉ ex -> H' b = none
 there : ∀ b o, h.get? b = some o -> b ∉ ex -> ∃ o', h'.get? b = some o'
 tups : ∀ b xs, H b = some (.tup xs) -> H' b = some (.tup xs)
 frzs : ∀ b o u, H b = some (.frz o u) -> H' b = some (.frz o u)
 tbls : ∀ b ps, H b = some (.tbl ps) -> ∃ more, H' b = some (.tbl (ps ++ more))
section
variable {fs fs' ex ex' : List Addr} {H H1 H2 : Hp} {h h1 h2 h' : Heap} {a x e : Addr} {o : HO}
theorem Un.any (u : Un fs ex H H1 h h1) {b : Addr} {ob : Obj} (q : h.get? b = some ob) (n : H b = none) (hx : b ∉ ex) : ∃ sl, h1.get? b = some { ob with slots := sl } := by
 by_cases hb : b ∈ fs
 ·exact u.slot b ob q n hb hx
 ·exact ⟨ob.slots, u.keep b ob q n hb hx⟩
theorem Un.trans (a : Un fs ex H H1 h h1) (b : Un fs ex H1 H2 h1 h2) : Un fs ex H H2 h h2 where
 keep := fun c ob q n hc hx => b.keep c ob (a.keep c ob q n hc hx) (a.free c ob q n hx) hc hx
 slot := fun c ob q n hc hx => by
  obtain ⟨sl, e1⟩ := a.slot c ob q n hc hx
  obtain ⟨sl', e2⟩ := b.slot c _ e1 (a.free c ob q n hx) hc hx
  exact ⟨sl', e2⟩
 free := fun c ob q n hx => by
  obtain ⟨o', e1⟩ := a.there c ob q hx
  exact b.free c o' e1 (a.free c ob q n hx) hx
 there := fun c ob q hx => by
  obtain ⟨o', e1⟩ := a.there c ob q hx
  exact b.there c o' e1 hx
 tups := fun c xs q => b.tups c xs (a.tups c xs q)
 frzs := fun c ob xs q => b.frzs c ob xs (a.frzs c ob xs q)
 tbls := fun c ps q => by
  obtain ⟨m1, e1⟩ := a.tbls c ps q
  obtain ⟨m2, e2⟩ := b.tbls c _ e1
  exact ⟨m1 ++ m2, by rw [e2, Array.append_assoc]⟩
theorem Un.kept (k : ∀ b u, h.get? b = some u -> h'.get? b = some u) : Un fs ex H H h h' :=
 ⟨fun b ob q _ _ _ => k b ob q, fun b ob q _ _ _ => ⟨ob.slots, k b ob q⟩, fun _ _ _ n _ => n, fun b ob q _ => ⟨ob, k b ob q⟩, fun _ _ q => q, fun _ _ _ q => q, fun _ ps q => ⟨#[], by rw [q]; simp⟩⟩
theorem Un.refl : Un fs ex H H h h := Un.kept fun _ _ q => q
theorem Un.laid (k : ∀ b u, h.get? b = some u -> h'.get? b = some u) (hp : h.objs.size <= a) (hn : H a = none) : Un fs ex H (upd H a o) h h' where
 keep := fun b u q _ _ _ => k b u q
 slot := fun b u q _ _ _ => ⟨u.slots, k b u q⟩
 free := fun b u q n _ => by rw [upd_ne (Nat.ne_of_lt (Nat.lt_of_lt_of_le (Heap.lt_size q) hp))]; exact n
 there := fun b u q _ => ⟨u, k b u q⟩
 tups := fun b xs q => by rw [upd_ne (ne_of_none q hn)]; exact q
 frzs := fun b u xs q => by rw [upd_ne (ne_of_none q hn)]; exact q
 tbls := fun b ps q => ⟨#[], by rw [upd_ne (ne_of_none q hn), q]; simp⟩
theorem Un.write (mu : Mut (H x)) (he : e = x ∨ H e = some (.own x)) (k : ∀ b u, b ≠ e -> h.get? b = some u -> h'.get? b = some u) (heo : ∃ u, h'.get? e = some u) : Un fs ex H (upd H x o) h h' := by
 have hx : ∀ b, H b = none -> b ≠ x := fun b n z => by subst z; rw [n] at mu; exact mu
 have hb : ∀ b, H b = none -> b ≠ e := fun b n z => by
  subst z
  rcases he with r | r
  ·exact hx b n r
  ·rw [n] at r; cases r
 have hm : ∀ b u, H b = some u -> ¬ Mut (some u) -> b ≠ x := fun b u q nm z => by subst z; rw [q] at mu; exact nm mu
 refine ⟨fun b u q n _ _ => k b u (hb b n) q, fun b u q n _ _ => ⟨u.slots, k b u (hb b n) q⟩, fun b u q n _ => by rw [upd_ne (hx b n)]; exact n, fun b u q _ => ?_,
  fun b xs q => by rw [upd_ne (hm b _ q fun z => z)]; exact q, fun b u xs q => by rw [upd_ne (hm b _ q fun z => z)]; exact q, fun b ps q => ⟨#[], by rw [upd_ne (hm b _ q fun z => z), q]; simp⟩⟩
 by_cases hbe : b = e
 ·subst hbe; exact heo
 ·exact ⟨u, k b u hbe q⟩
end
def trk (h : Heap) (H : Hp) : List Addr := (List.range h.objs.size).filter fun a => (H a).isSome
def hidT (h : Heap) (H : Hp) : Heap := PySem.W.hideAll h (trk h H)
theorem hidT_size (h : Heap) (H : Hp) : (hidT h H).objs.size = h.objs.size := PySem.W.hideAll_size _ _
theorem hidT_get {h : Heap} {H : Hp} {b : Addr} {o : Obj} (e : h.get? b = some o) (n : H b = none) : (hidT h H).get? b = some o :=
 PySem.W.hideAll_get _ e fun hm => by
  have q : (H b).isSome = true := (List.mem_filter.mp hm).2
  rw [n] at q; simp at q
theorem of_hidT {h : Heap} {H : Hp} {b : Addr} {o : Obj} (e : (hidT h H).get? b = some o) : h.get? b = some o ∧ H b = none := by
 have e' : h.get? b = some o := PySem.W.of_hideAll (trk h H) e
 refine ⟨e', ?_⟩
 cases q : H b with
 | none => rfl
 | some x =>
  have hm : b ∈ trk h H := List.mem_filter.mpr ⟨List.mem_range.mpr (Heap.lt_size e'), by simp [q]⟩
  have z : (hidT h H).get? b = none := PySem.W.hideAll_none (trk h H) hm
  rw [z] at e; cases e
def allNews (g h : Heap) (L : Addr) : List (Addr × Obj) := (List.range h.objs.size).filterMap fun a => if a = L ∨ (g.get? a).isSome = true then none else (h.get? a).map fun o => (a, o)
def rest (g h : Heap) (L d : Addr) : List (Addr × Obj) := (allNews g h L).filter fun p => decide (p.1 ≠ d)
end L2
namespace L2
open PySem PySem.Spec PyProof.Rows
structure Mod (K : PySem.W.Frag) (mg : Str -> Option Value) (base : Heap) : Prop where
 kin : K.In base
 glob : base.Ns mainGlobals mg
 blt : ∃ mb, base.Ns builtinsNs mb ∧ ∀ x : Str, x ≠ "__name__" -> mb x = bootBuiltins x
 nolimit : base.NoLimit
structure Cx where
 prog : Program
 w : World
 K : PySem.W.Frag
 mg : Str -> Option Value
 base : Heap
 A : Around
 N : List Str
 s₀ : Shared
 H₀ : Hp
 env : Env
 outer : List Env
 stack : List Env
 ex : List Addr
 fn : Str -> Bool
 calm : Bool
 pn : List (Addr × Obj)
 xe : Value -> Shared -> Prop
def frs (l : List Env) : List Addr := l.filterMap (·.frame)
abbrev Cx.fs (X : Cx) : List Addr := frs X.outer
def Vis (sc : Scope) (x : Str) : Prop := sc.names.lookup x = some .local ∨ sc.names.lookup x = some .cell ∨ sc.names.lookup x = some .free
def Loc (sc : Scope) (x : Str) : Prop := sc.names.lookup x = some .local ∨ sc.names.lookup x = some .cell
def Look (env : Env) (h : Heap) (m : Str -> Option Value) (x : Str) (u : Value) : Prop :=
 (env.kindOf x = some .local ∧ m x = some u) ∨ ((env.kindOf x = some .cell ∨ env.kindOf x = some .free) ∧ ∃ c, env.cells.lookup x = some c ∧ h.IsCell c (some u))
structure Cx.Ok (X : Cx) : Prop where
 mod : Mod X.K X.mg X.base
 kind : X.env.scope.kind = .function
 glob : X.env.globals = mainGlobals
 blt : X.env.builtins = builtinsNs
 above : X.s₀.heap.objs.size <= X.env.locals
 inj : ∀ x y c, X.env.cells.lookup x = some c -> X.env.cells.lookup y = some c -> x = y
 has : ∀ x, (X.env.kindOf x = some .cell ∨ X.env.kindOf x = some .free) -> ∃ c, X.env.cells.lookup x = some c
 cab : ∀ x c, X.fn x = true -> X.env.cells.lookup x = some c -> X.s₀.heap.objs.size <= c
 hd : X.calm = true -> X.A.handled = none
 frames : X.A.frames = some X.stack
 stk : X.stack = X.outer ∨ (X.stack = X.env :: X.outer ∧ X.env.frame = some X.env.locals)
 exf : ∀ b ∈ X.ex, b ≠ X.env.locals ∧ ∀ x c, X.env.cells.lookup x = some c -> c ≠ b
 bs : ∀ b o, X.base.get? b = some o -> X.s₀.heap.get? b = some o ∧ X.H₀ b = none
 bsz : X.base.objs.size <= X.s₀.heap.objs.size
 noex : ∀ b o, X.base.get? b = some o -> b ∉ X.ex
 exfs : ∀ b ∈ X.ex, b ∉ X.fs
 funs : X.s₀.heap.FunFrames X.base X.outer
 frf : ∀ b ∈ X.fs, X.H₀ b = none
structure Inv (X : Cx) (pins : List (Addr × Obj)) (σ : List (Option V)) (H : Hp) (s : Shared) : Prop where
 ok : X.Ok
 os : s.os = X.s₀.os
 bare : AllBare s.gens
 base : Un X.fs X.ex X.H₀ H X.s₀.heap s.heap
 loc : ∃ m, s.heap.Ns X.env.locals m ∧ ∀ (i : Nat) (x : Str) (v : V), X.N[i]? = some x -> σ[i]? = some (some v) -> Vis X.env.scope x -> ∃ u, RelV v u ∧ Look X.env s.heap m x u
 cell : ∀ x c, X.env.cells.lookup x = some c -> ∃ v, s.heap.IsCell c v
 free : H X.env.locals = none
 freeC : ∀ x c, X.env.cells.lookup x = some c -> H c = none
 pin : ∀ p ∈ X.pn ++ pins, s.heap.get? p.1 = some p.2 ∧ H p.1 = none ∧ p.1 ≠ X.env.locals ∧ p.1 ∉ X.fs ∧ ∀ v, p.2.data ≠ .cell v
 hok : HOk X.prog X.w H s.heap
 len : σ.length = X.N.length
section
variable {X : Cx} {pins : List (Addr × Obj)} {σ : List (Option V)} {H H' : Hp} {s : Shared} {h' : Heap}
theorem Cx.Ok.nofr (ok : X.Ok) {b : Addr} {o : Obj} (e : X.base.get? b = some o) : b ∉ X.fs := fun hb => by
 have := (ok.funs.mem hb).1
 rw [e] at this; cases this
theorem Inv.bs (I : Inv X pins σ H s) : ∀ b o, X.base.get? b = some o -> s.heap.get? b = some o ∧ H b = none := fun b o e =>
 ⟨I.base.keep b o (I.ok.bs b o e).1 (I.ok.bs b o e).2 (I.ok.nofr e) (I.ok.noex b o e), I.base.free b o (I.ok.bs b o e).1 (I.ok.bs b o e).2 (I.ok.noex b o e)⟩
theorem Inv.bk (I : Inv X pins σ H s) : ∀ b o, X.base.get? b = some o -> s.heap.get? b = some o := fun b o e => (I.bs b o e).1
theorem Inv.mod (I : Inv X pins σ H s) : Mod X.K X.mg X.base := I.ok.mod
theorem Inv.kIn (I : Inv X pins σ H s) : X.K.In s.heap := I.ok.mod.kin.keeps I.bk
theorem Inv.lt (I : Inv X pins σ H s) : X.env.locals < s.heap.objs.size := let ⟨_, hn, _⟩ := I.loc; hn.lt
theorem Inv.sz (I : Inv X pins σ H s) : X.s₀.heap.objs.size <= s.heap.objs.size := Nat.le_trans I.ok.above (Nat.le_of_lt I.lt)
theorem Inv.nofs (I : Inv X pins σ H s) {a : Addr} (h : s.heap.objs.size <= a) : a ∉ X.fs := fun hb => by
 obtain ⟨_, o, ho, _⟩ := I.ok.funs.mem hb
 exact absurd (Nat.lt_of_lt_of_le (Heap.lt_size ho) (Nat.le_trans I.sz h)) (Nat.lt_irrefl _)
theorem Inv.cne (I : Inv X pins σ H s) : ∀ x c, X.env.cells.lookup x = some c -> c ≠ X.env.locals := fun x c e z => by
 obtain ⟨v, o, ho, hd⟩ := I.cell x c e
 obtain ⟨m, ⟨o', es, ep, ho', hd', _⟩, _⟩ := I.loc
 rw [z, ho'] at ho; cases ho; rw [hd'] at hd; cases hd
theorem Inv.funs (I : Inv X pins σ H s) : s.heap.FunFrames X.base X.outer := by
 have all : ∀ (l : List Env), (∀ b ∈ frs l, b ∈ X.fs) -> X.s₀.heap.FunFrames X.base l -> s.heap.FunFrames X.base l := by
  intro l
  induction l with
  | nil => intro _ _; trivial
  | cons env r ih =>
   intro hs hl
   obtain ⟨hk, ⟨L, o, hf, hn, ho, hd⟩, hr⟩ := hl
   have hL : L ∈ X.fs := hs L (by unfold frs; rw [List.filterMap_cons, hf]; exact List.mem_cons_self)
   obtain ⟨sl, e⟩ := I.base.slot L o ho (I.ok.frf L hL) hL fun z => I.ok.exfs L z hL
   exact ⟨hk, ⟨L, _, hf, hn, e, hd⟩, ih (fun b hb => hs b (by unfold frs; rw [List.filterMap_cons, hf]; exact List.mem_cons_of_mem _ hb)) hr⟩
 exact all X.outer (fun _ hb => hb) I.ok.funs
theorem Inv.stack (I : Inv X pins σ H s) : s.heap.FunFrames X.base X.stack := by
 rcases I.ok.stk with e | ⟨e, hf⟩
 ·rw [e]; exact I.funs
 ·rw [e]
  obtain ⟨m, hn, _⟩ := I.loc
  refine .cons (by rw [I.ok.kind]; decide) hf hn ?_ I.funs
  exact Heap.get?_none_of_le (Nat.le_trans I.ok.bsz I.ok.above)
theorem Inv.stkSub (I : Inv X pins σ H s) : ∀ b ∈ frs X.stack, b ∈ X.env.locals :: X.fs := fun b hb => by
 rcases I.ok.stk with e | ⟨e, hf⟩
 ·rw [e] at hb; exact List.mem_cons_of_mem _ hb
 ·rw [e] at hb
  unfold frs at hb
  rw [List.filterMap_cons, hf] at hb
  exact hb
theorem Inv.stkFree (I : Inv X pins σ H s) : ∀ b ∈ frs X.stack, H b = none := fun b hb => by
 rcases List.mem_cons.mp (I.stkSub b hb) with e | hb
 ·rw [e]; exact I.free
 ·obtain ⟨_, o, ho, _⟩ := I.ok.funs.mem hb
  exact I.base.free b o ho (I.ok.frf b hb) fun z => I.ok.exfs b z hb
theorem Inv.step {g' : Array GenState} {t' : Nat} {d' : Drawn} {ch : List Addr} (I : Inv X pins σ H s)
  (hch : ∀ b ∈ ch, (b ∈ X.ex ∨ X.s₀.heap.objs.size <= b) ∧ b ≠ X.env.locals ∧ (∀ x c, X.env.cells.lookup x = some c -> c ≠ b) ∧ ∀ p ∈ X.pn ++ pins, p.1 ≠ b)
  (keep : ∀ b o, b ≠ X.env.locals -> b ∉ X.fs -> b ∉ ch -> s.heap.get? b = some o -> H b = none -> h'.get? b = some o)
  (slot : ∀ b o, b ≠ X.env.locals -> b ∈ X.fs -> b ∉ ch -> s.heap.get? b = some o -> H b = none -> ∃ sl, h'.get? b = some { o with slots := sl }) (free : ∀ b o, b ∉ ch -> s.heap.get? b = some o -> H b = none -> H' b = none)
  (there : ∀ b o, b ∉ ch -> s.heap.get? b = some o -> ∃ o', h'.get? b = some o')
  (tups : ∀ b xs, H b = some (.tup xs) -> H' b = some (.tup xs)) (frzs : ∀ b o u, H b = some (.frz o u) -> H' b = some (.frz o u)) (tbls : ∀ b ps, H b = some (.tbl ps) -> ∃ more, H' b = some (.tbl (ps ++ more)))
  (ns : ∀ m, s.heap.Ns X.env.locals m -> h'.Ns X.env.locals m) (hok : HOk X.prog X.w H' h') (hg : AllBare g') :
  Inv X pins σ H' { s with heap := h', gens := g', drawn := d', toks := t' } := by
 have neL : ∀ b o, X.s₀.heap.get? b = some o -> b ≠ X.env.locals := fun b o e => Nat.ne_of_lt (Nat.lt_of_lt_of_le (Heap.lt_size e) I.ok.above)
 have neC : ∀ b o, X.s₀.heap.get? b = some o -> b ∉ X.ex -> b ∉ ch := fun b o e hx hb => by
  rcases (hch b hb).1 with z | z
  ·exact hx z
  ·exact absurd (Nat.lt_of_lt_of_le (Heap.lt_size e) z) (Nat.lt_irrefl _)
 have cellK : ∀ x c, X.env.cells.lookup x = some c -> ∀ v, s.heap.IsCell c v -> h'.IsCell c v := fun x c e v ⟨o, ho, hd⟩ => by
  have nch : c ∉ ch := fun z => (hch c z).2.2.1 x c e rfl
  by_cases hc : c ∈ X.fs
  ·obtain ⟨sl, q⟩ := slot c o (I.cne x c e) hc nch ho (I.freeC x c e)
   exact ⟨_, q, hd⟩
  ·exact ⟨o, keep c o (I.cne x c e) hc nch ho (I.freeC x c e), hd⟩
 refine ⟨I.ok, I.os, hg, ⟨fun b o e n hb hx => ?_, fun b o e n hb hx => ?_, fun b o e n hx => ?_, fun b o e hx => ?_, fun b xs e => tups b xs (I.base.tups b xs e), fun b o xs e => frzs b o xs (I.base.frzs b o xs e), fun b ps e => ?_⟩, ?_, fun x c e => ?_, ?_, fun x c e => ?_, fun p hp => ?_, hok, I.len⟩
 ·exact keep b o (neL b o e) hb (neC b o e hx) (I.base.keep b o e n hb hx) (I.base.free b o e n hx)
 ·obtain ⟨sl, e1⟩ := I.base.slot b o e n hb hx
  obtain ⟨sl', e2⟩ := slot b _ (neL b o e) hb (neC b o e hx) e1 (I.base.free b o e n hx)
  exact ⟨sl', e2⟩
 ·obtain ⟨o', e1⟩ := I.base.there b o e hx
  exact free b o' (neC b o e hx) e1 (I.base.free b o e n hx)
 ·obtain ⟨o', e1⟩ := I.base.there b o e hx
  exact there b o' (neC b o e hx) e1
 ·obtain ⟨m1, e1⟩ := I.base.tbls b ps e
  obtain ⟨m2, e2⟩ := tbls b _ e1
  exact ⟨m1 ++ m2, by rw [e2, Array.append_assoc]⟩
 ·obtain ⟨m, hn, hl⟩ := I.loc
  refine ⟨m, ns m hn, fun i x v e1 e2 e3 => ?_⟩
  obtain ⟨u, r, l⟩ := hl i x v e1 e2 e3
  refine ⟨u, r, ?_⟩
  rcases l with l | ⟨k, c, e, z⟩
  ·exact .inl l
  ·exact .inr ⟨k, c, e, cellK x c e _ z⟩
 ·obtain ⟨v, z⟩ := I.cell x c e
  exact ⟨v, cellK x c e v z⟩
 ·obtain ⟨m, ⟨o, _, _, ho, _⟩, _⟩ := I.loc
  exact free _ o (fun z => (hch _ z).2.1 rfl) ho I.free
 ·obtain ⟨v, o, ho, hd⟩ := I.cell x c e
  exact free c o (fun z => (hch c z).2.2.1 x c e rfl) ho (I.freeC x c e)
 ·obtain ⟨e, n, ne, nf, d⟩ := I.pin p hp
  have nch : p.1 ∉ ch := fun z => (hch p.1 z).2.2.2 p hp rfl
  exact ⟨keep p.1 p.2 ne nf nch e n, free p.1 p.2 nch e n, ne, nf, d⟩
theorem Inv.un {t' : Nat} (I : Inv X pins σ H s) (u : Un X.fs [] H H' s.heap h') (hok : HOk X.prog X.w H' h') : Inv X pins σ H' { s with heap := h', toks := t' } := by
 obtain ⟨m, ⟨o, es, ep, ho, r⟩, _⟩ := id I.loc
 obtain ⟨sl, hL⟩ := u.any ho I.free (by simp)
 exact I.step (g' := s.gens) (d' := s.drawn) (ch := []) (fun _ z => nomatch z) (fun b o _ hb _ e n => u.keep b o e n hb (by simp)) (fun b o _ hb _ e n => u.slot b o e n hb (by simp)) (fun b o _ e n => u.free b o e n (by simp)) (fun b o _ e => u.there b o e (by simp)) u.tups u.frzs u.tbls (fun m' hm => by
  obtain ⟨o', es', ep', ho', r'⟩ := hm
  rw [ho] at ho'; cases ho'
  exact ⟨_, es', ep', hL, r'⟩) hok I.bare
theorem Inv.call {g' : Array GenState} {t' : Nat} {d' : Drawn} {ch : List Addr} (I : Inv X pins σ H s) (u : Un (frs X.stack) ch H H' s.heap h') (hok : HOk X.prog X.w H' h') (hg : AllBare g')
  (hch : ∀ b ∈ ch, (b ∈ X.ex ∨ X.s₀.heap.objs.size <= b) ∧ b ≠ X.env.locals ∧ (∀ x c, X.env.cells.lookup x = some c -> c ≠ b) ∧ ∀ p ∈ X.pn ++ pins, p.1 ≠ b) :
  Inv X pins σ H' { s with heap := h', gens := g', drawn := d', toks := t' } := by
 obtain ⟨m, ⟨o, es, ep, ho, r⟩, _⟩ := id I.loc
 obtain ⟨sl, hL⟩ := u.any ho I.free fun z => (hch _ z).2.1 rfl
 exact I.step (ch := ch) hch (fun b o hL hb hc e n => u.keep b o e n (fun z => (List.mem_cons.mp (I.stkSub b z)).elim hL hb) hc) (fun b o _ _ hc e n => u.any e n hc) (fun b o hc e n => u.free b o e n hc) (fun b o hc e => u.there b o e hc) u.tups u.frzs u.tbls (fun m' hm => by
  obtain ⟨o', es', ep', ho', r'⟩ := hm
  rw [ho] at ho'; cases ho'
  exact ⟨_, es', ep', hL, r'⟩) hok hg
theorem Inv.turned {t' : Nat} {it : Addr} (I : Inv X pins σ H s) (k : ∀ b o, b ≠ it -> s.heap.get? b = some o -> h'.get? b = some o) (hn : H it = none) (hL : it ≠ X.env.locals)
  (h1 : it ∈ X.ex ∨ X.s₀.heap.objs.size <= it) (h2 : ∀ x c, X.env.cells.lookup x = some c -> c ≠ it) (h3 : ∀ p ∈ X.pn ++ pins, p.1 ≠ it) : Inv X pins σ H { s with heap := h', toks := t' } := by
 have nit : ∀ b u, H b = some u -> b ≠ it := fun b u e z => by rw [z, hn] at e; cases e
 refine I.step (g' := s.gens) (d' := s.drawn) (ch := [it]) (fun b hb => ?_) (fun b o _ _ hc e _ => k b o (fun z => hc (by simp [z])) e) (fun b o _ _ hc e _ => ⟨o.slots, k b o (fun z => hc (by simp [z])) e⟩) (fun _ _ _ _ n => n)
  (fun b o hc e => ⟨o, k b o (fun z => hc (by simp [z])) e⟩) (fun _ _ e => e) (fun _ _ _ e => e) (fun b ps e => ⟨#[], by rw [e]; simp⟩) (fun m hm => ?_) (fun b u e => ?_) I.bare
 ·have e : b = it := by simpa using hb
  subst e
  exact ⟨h1, hL, h2, h3⟩
 ·obtain ⟨o, es, ep, ho, r⟩ := hm
  exact ⟨o, es, ep, k _ o (Ne.symm hL) ho, r⟩
 ·refine (I.hok b u e).stay (fun c v hc q => k c v ?_ q) (fun _ q => q) fun _ _ q => q
  rcases hc with z | z
  ·rw [z]; exact nit b u e
  ·exact nit c _ z
theorem Inv.tok (I : Inv X pins σ H s) (t : Nat) : Inv X pins σ H { s with toks := t } := I.un (h' := s.heap) (t' := t) Un.refl I.hok
theorem Inv.kept {t' : Nat} (I : Inv X pins σ H s) (k : ∀ b u, s.heap.get? b = some u -> h'.get? b = some u) : Inv X pins σ H { s with heap := h', toks := t' } := I.un (Un.kept k) (I.hok.kept k)
theorem Inv.laid {a : Addr} {o : HO} {t' : Nat} (I : Inv X pins σ H s) (k : ∀ b u, s.heap.get? b = some u -> h'.get? b = some u) (hp : s.heap.objs.size <= a) (new : ObjOk X.prog X.w (upd H a o) h' a o) :
  Inv X pins σ (upd H a o) { s with heap := h', toks := t' } := I.un (Un.laid k hp (I.hok.fresh hp)) (I.hok.laid k hp new)
theorem Inv.write {x e : Addr} {o : HO} {t' : Nat} (I : Inv X pins σ H s) (mu : Mut (H x)) (he : e = x ∨ H e = some (.own x)) (k : ∀ b u, b ≠ e -> s.heap.get? b = some u -> h'.get? b = some u) (heo : ∃ u, h'.get? e = some u)
  (new : ObjOk X.prog X.w (upd H x o) h' x o) : Inv X pins σ (upd H x o) { s with heap := h', toks := t' } := I.un (Un.write mu he k heo) (I.hok.write mu he k heo new)
theorem Inv.pins_of {pins' : List (Addr × Obj)} (I : Inv X pins σ H s) (h : ∀ p ∈ pins', s.heap.get? p.1 = some p.2 ∧ H p.1 = none ∧ p.1 ≠ X.env.locals ∧ p.1 ∉ X.fs ∧ ∀ v, p.2.data ≠ .cell v) : Inv X pins' σ H s :=
 ⟨I.ok, I.os, I.bare, I.base, I.loc, I.cell, I.free, I.freeC, fun p hp => (List.mem_append.mp hp).elim (fun z => I.pin p (List.mem_append_left _ z)) (h p), I.hok, I.len⟩
theorem nodup_ix {N : List Str} (hN : N.Nodup) {i j : Nat} {x : Str} (a : N[i]? = some x) (b : N[j]? = some x) : i = j := by
 obtain ⟨h1, e1⟩ := List.getElem?_eq_some_iff.mp a
 obtain ⟨h2, e2⟩ := List.getElem?_eq_some_iff.mp b
 exact (List.getElem_inj hN).mp (e1.trans e2.symm)
theorem store_ok2 {M : Model} {A : Around} {E : Value -> Shared -> Prop} {i : Nat} {x : Str} {v : V} {u : Value} {Q : Unit -> Shared -> Prop} (I : Inv X pins σ H s) (hN : X.N.Nodup) (hi : X.N[i]? = some x) (hx : Loc X.env.scope x) (r : RelV v u)
  (h : ∀ s', Inv X pins (σ.set i (some v)) H s' -> (∃ a, Heap.SameBut a s.heap s'.heap ∧ (a = X.env.locals ∨ X.env.cells.lookup x = some a)) -> Q () s') (hf : X.fn x = true ∨ X.env.scope.names.lookup x = some .local := by first | exact .inl rfl | exact .inr rfl | assumption) : wpAny M A (storeName X.env x u) Q E s := by
 obtain ⟨m, hn, hl⟩ := id I.loc
 have hcls : (X.env.scope.kind == .class || (X.env.scope.kind == .module && X.env.locals != X.env.globals)) = false := by rw [I.ok.kind]; rfl
 have hiσ : i < σ.length := by rw [I.len]; exact (List.getElem?_eq_some_iff.mp hi).1
 have cne := I.cne
 have tracked : ∀ {a : Addr} {h' : Heap}, (∃ o, s.heap.get? a = some o ∧ H a = none) -> Heap.SameBut a s.heap h' -> HOk X.prog X.w H h' := fun {a h'} ha hs b ob e => by
  obtain ⟨_, _, hfree⟩ := ha
  refine (I.hok b ob e).stay (fun c w' hc q => (hs.2 c ?_).trans q) (fun _ q => q) fun _ _ q => q
  rintro rfl
  rcases hc with rfl | hc
  ·rw [hfree] at e; cases e
  ·rw [hfree] at hc; cases hc
 rcases hx with hk | hk
 ·refine wpAny_storeName_local hk hn (fun h' hn' hs => ?_) hcls
  obtain ⟨oL, _, _, hoL, _⟩ := id hn
  refine h _ ⟨I.ok, I.os, I.bare, ⟨fun b o e n hb hx => ?_, fun b o e n hb hx => ?_, I.base.free, fun b o e hx => ?_, I.base.tups, I.base.frzs, I.base.tbls⟩, ⟨_, hn', fun j y v' e1 e2 e3 => ?_⟩, fun y c e => ?_, I.free, I.freeC, fun p hp => ?_, tracked ⟨oL, hoL, I.free⟩ hs, by simpa using I.len⟩ ⟨_, hs, .inl rfl⟩
  ·exact (hs.2 b (Nat.ne_of_lt (Nat.lt_of_lt_of_le (Heap.lt_size e) I.ok.above))).trans (I.base.keep b o e n hb hx)
  ·obtain ⟨sl, e1⟩ := I.base.slot b o e n hb hx
   exact ⟨sl, (hs.2 b (Nat.ne_of_lt (Nat.lt_of_lt_of_le (Heap.lt_size e) I.ok.above))).trans e1⟩
  ·obtain ⟨o', e1⟩ := I.base.there b o e hx
   exact ⟨o', (hs.2 b (Nat.ne_of_lt (Nat.lt_of_lt_of_le (Heap.lt_size e) I.ok.above))).trans e1⟩
  ·by_cases hj : j = i
   ·subst hj
    rw [hi] at e1; cases e1
    rw [List.getElem?_set_self hiσ] at e2
    cases e2
    exact ⟨u, r, .inl ⟨hk, by simp⟩⟩
   ·rw [List.getElem?_set_ne (Ne.symm hj)] at e2
    obtain ⟨u', r', q⟩ := hl j y v' e1 e2 e3
    refine ⟨u', r', ?_⟩
    rcases q with ⟨k, e⟩ | ⟨k, c, e, z⟩
    ·refine .inl ⟨k, ?_⟩
     have : y ≠ x := fun e => hj (nodup_ix hN e1 (e ▸ hi))
     simp [this, e]
    ·exact .inr ⟨k, c, e, z.sameBut hs (cne y c e)⟩
  ·obtain ⟨w', z⟩ := I.cell y c e
   exact ⟨w', z.sameBut hs (cne y c e)⟩
  ·obtain ⟨e, n, ne, nf, d⟩ := I.pin p hp
   exact ⟨(hs.2 p.1 ne).trans e, n, ne, nf, d⟩
 ·have hfn : X.fn x = true := by
   rcases hf with z | z
   ·exact z
   ·rw [z] at hk; cases hk
  obtain ⟨c, hc⟩ := I.ok.has x (.inl hk)
  obtain ⟨w', z⟩ := I.cell x c hc
  refine wpAny_storeName_cell I.ok.kind hk hc z (fun h' hc' hs => ?_)
  obtain ⟨oc, hoc, hocd⟩ := id z
  refine h { s with heap := h' } ⟨I.ok, I.os, I.bare, ⟨fun b o e n hb hx => ?_, fun b o e n hb hx => ?_, I.base.free, fun b o e hx => ?_, I.base.tups, I.base.frzs, I.base.tbls⟩, ⟨m, hn.sameBut hs (Ne.symm (cne x c hc)), fun j y v' e1 e2 e3 => ?_⟩, fun y c' e => ?_, I.free, I.freeC, fun p hp => ?_, tracked ⟨oc, hoc, I.freeC x c hc⟩ hs, by simpa using I.len⟩ ⟨c, hs, .inr hc⟩
  ·exact (hs.2 b (Nat.ne_of_lt (Nat.lt_of_lt_of_le (Heap.lt_size e) (I.ok.cab x c hfn hc)))).trans (I.base.keep b o e n hb hx)
  ·obtain ⟨sl, e1⟩ := I.base.slot b o e n hb hx
   exact ⟨sl, (hs.2 b (Nat.ne_of_lt (Nat.lt_of_lt_of_le (Heap.lt_size e) (I.ok.cab x c hfn hc)))).trans e1⟩
  ·obtain ⟨o', e1⟩ := I.base.there b o e hx
   exact ⟨o', (hs.2 b (Nat.ne_of_lt (Nat.lt_of_lt_of_le (Heap.lt_size e) (I.ok.cab x c hfn hc)))).trans e1⟩
  ·by_cases hj : j = i
   ·subst hj
    rw [hi] at e1; cases e1
    rw [List.getElem?_set_self hiσ] at e2
    cases e2
    exact ⟨u, r, .inr ⟨.inl hk, c, hc, hc'⟩⟩
   ·rw [List.getElem?_set_ne (Ne.symm hj)] at e2
    obtain ⟨u', r', q⟩ := hl j y v' e1 e2 e3
    refine ⟨u', r', ?_⟩
    rcases q with q | ⟨k, c', e, z'⟩
    ·exact .inl q
    ·refine .inr ⟨k, c', e, z'.sameBut hs ?_⟩
     rintro rfl
     exact hj (nodup_ix hN e1 (I.ok.inj _ _ _ e hc ▸ hi))
  ·by_cases hcc : c' = c
   ·subst hcc; exact ⟨_, hc'⟩
   ·obtain ⟨w2, z2⟩ := I.cell y c' e
    exact ⟨w2, z2.sameBut hs hcc⟩
  ·obtain ⟨e, n, ne, nf, d⟩ := I.pin p hp
   refine ⟨(hs.2 p.1 ?_).trans e, n, ne, nf, d⟩
   intro q
   rw [q, hoc] at e
   have q' : oc = p.2 := Option.some.inj e
   exact d w' (by rw [← q']; exact hocd)
theorem store_ok {M : Model} {A : Around} {E : Value -> Shared -> Prop} {i : Nat} {x : Str} {v : V} {u : Value} {Q : Unit -> Shared -> Prop} (I : Inv X pins σ H s) (hN : X.N.Nodup) (hi : X.N[i]? = some x) (hx : Loc X.env.scope x) (r : RelV v u)
  (h : ∀ s', Inv X pins (σ.set i (some v)) H s' -> Q () s') (hf : X.fn x = true ∨ X.env.scope.names.lookup x = some .local := by first | exact .inl rfl | exact .inr rfl | assumption) : wpAny M A (storeName X.env x u) Q E s :=
 store_ok2 I hN hi hx r (fun s' I' _ => h s' I') hf
theorem Inv.call' {s' : Shared} {ch : List Addr} (I : Inv X pins σ H s) (ho : s'.os = s.os) (u : Un (frs X.stack) ch H H' s.heap s'.heap) (hok : HOk X.prog X.w H' s'.heap) (hg : AllBare s'.gens)
  (hch : ∀ b ∈ ch, (b ∈ X.ex ∨ X.s₀.heap.objs.size <= b) ∧ b ≠ X.env.locals ∧ (∀ x c, X.env.cells.lookup x = some c -> c ≠ b) ∧ ∀ p ∈ X.pn ++ pins, p.1 ≠ b) : Inv X pins σ H' s' := by
 obtain ⟨h', g', d', t', o'⟩ := s'
 have e : o' = s.os := ho
 subst e
 exact I.call (g' := g') (t' := t') (d' := d') u hok hg hch
end
abbrev XK := Value -> Option Addr -> Hp -> Prop
abbrev St := List (Option V)
abbrev VK := V -> Hp -> Prop
abbrev TE := St -> Hp -> VK -> Prop
abbrev TT := St -> Hp -> (Bool -> Hp -> Prop) -> Prop
abbrev TA := St -> Hp -> (List V -> Hp -> Prop) -> Prop
structure Ends where
 nx : St -> Hp -> Prop
 rt : VK
 bk : St -> Hp -> Prop := fun _ _ => False
 ct : St -> Hp -> Prop := fun _ _ => False
abbrev TS := Ends -> St -> Hp -> Prop
def EP (X : Cx) (pins : List (Addr × Obj)) (σ : St) (Q : VK) (u : Value) (s' : Shared) : Prop := ∃ v H', Inv X pins σ H' s' ∧ RelV v u ∧ Q v H'
def TP (X : Cx) (pins : List (Addr × Obj)) (σ : St) (Q : Bool -> Hp -> Prop) (b : Bool) (s' : Shared) : Prop := ∃ H', Inv X pins σ H' s' ∧ Q b H'
def AP (X : Cx) (pins : List (Addr × Obj)) (σ : St) (Q : List V -> Hp -> Prop) (us : List Value) (s' : Shared) : Prop := ∃ vs H', Inv X pins σ H' s' ∧ Vals vs us ∧ Q vs H'
def SP (X : Cx) (pins : List (Addr × Obj)) (D : Ends) (f : Flow) (s' : Shared) : Prop :=
 match f with
 | .next => ∃ σ' H', Inv X pins σ' H' s' ∧ D.nx σ' H'
 | .brk => ∃ σ' H', Inv X pins σ' H' s' ∧ D.bk σ' H'
 | .cont => ∃ σ' H', Inv X pins σ' H' s' ∧ D.ct σ' H'
 | .ret u => ∃ v σ' H', Inv X pins σ' H' s' ∧ RelV v u ∧ D.rt v H'
def PE (X : Cx) (e : Expr) (t : TE) : Prop :=
 ∀ (pins : List (Addr × Obj)) (s : Shared) (σ : St) (H : Hp) (Q : VK), Inv X pins σ H s -> t σ H Q -> wpAny (model X.prog X.w) X.A (eval e X.env) (EP X pins σ Q) X.xe s
def PT (X : Cx) (e : Expr) (t : TT) : Prop :=
 ∀ (pins : List (Addr × Obj)) (s : Shared) (σ : St) (H : Hp) (Q : Bool -> Hp -> Prop), Inv X pins σ H s -> t σ H Q -> wpAny (model X.prog X.w) X.A (isTrue e X.env (eval e X.env)) (TP X pins σ Q) X.xe s
def PW (X : Cx) (e : Expr) (t : TT) : Prop :=
 ∀ (whole : Sem Value) (pins : List (Addr × Obj)) (s : Shared) (σ : St) (H : Hp) (Q : Bool -> Hp -> Prop), Inv X pins σ H s -> t σ H Q -> wpAny (model X.prog X.w) X.A (isTrue e X.env whole) (TP X pins σ Q) X.xe s
theorem PW.pt {X : Cx} {e : Expr} {t : TT} (h : PW X e t) : PT X e t := h _
def PA (X : Cx) (es : List Expr) (t : TA) : Prop :=
 ∀ (pos : Pos) (pins : List (Addr × Obj)) (s : Shared) (σ : St) (H : Hp) (Q : List V -> Hp -> Prop), Inv X pins σ H s -> t σ H Q -> wpAny (model X.prog X.w) X.A (spliced (backTo pos (starEach es X.env))) (AP X pins σ Q) X.xe s
def PS (X : Cx) (st : Stmt) (t : TS) : Prop :=
 ∀ (pins : List (Addr × Obj)) (s : Shared) (σ : St) (H : Hp) (D : Ends), Inv X pins σ H s -> t D σ H -> wpAny (model X.prog X.w) X.A (exec st X.env) (SP X pins D) X.xe s
def PSs (X : Cx) (st : List Stmt) (t : TS) : Prop :=
 ∀ (pins : List (Addr × Obj)) (s : Shared) (σ : St) (H : Hp) (D : Ends), Inv X pins σ H s -> t D σ H -> wpAny (model X.prog X.w) X.A (execs st X.env) (SP X pins D) X.xe s
theorem thn {α : Type} {t : Sem α} {Q Q' : α -> Shared -> Prop} {M : Model} {A : Around} {E : Value -> Shared -> Prop} {s : Shared} (h : wpAny M A t Q E s) (hQ : ∀ a s, Q a s -> Q' a s) : wpAny M A t Q' E s := wpAny_mono h hQ fun _ _ x => x
end L2
namespace L2
open PySem PySem.Spec PyProof.Rows
section
variable {X : Cx}
theorem bin {a b : Expr} {ta tb : TE} (ha : PE X a ta) (hb : PE X b tb) {pins : List (Addr × Obj)} {s : Shared} {σ : St} {H : Hp} {R : V -> V -> Hp -> Prop} (I : Inv X pins σ H s) (h : ta σ H fun x H1 => tb σ H1 fun y H2 => R x y H2)
  {α : Type} {Q : α -> Shared -> Prop} {f : Value -> Value -> Sem α}
  (hf : ∀ v u s2 x y H2, Inv X pins σ H2 s2 -> RelV x v -> RelV y u -> R x y H2 -> wpAny (model X.prog X.w) X.A (f v u) Q X.xe s2) :
  wpAny (model X.prog X.w) X.A (eval a X.env) (fun v s₁ => wpAny (model X.prog X.w) X.A (eval b X.env) (fun u s₂ => wpAny (model X.prog X.w) X.A (f v u) Q X.xe s₂) X.xe s₁) X.xe s := by
 refine thn (ha pins s σ H _ I h) fun v s1 ⟨x, H1, I1, r1, q1⟩ => ?_
 refine thn (hb pins s1 σ H1 _ I1 q1) fun u s2 ⟨y, H2, I2, r2, q2⟩ => ?_
 exact hf v u s2 x y H2 I2 r1 r2 q2
def tVar (i : Nat) : TE := fun σ H Q => ∃ v, σ[i]? = some (some v) ∧ Q v H
def tC (v : V) : TE := fun _ H Q => Q v H
theorem pe_var {i : Nat} {x : Str} {pos : Pos} (hN : X.N[i]? = some x) (hv : Vis X.env.scope x) (hd : (x == ("__debug__" : Str)) = false := by decide) (hcd : (x == ("__classdict__" : Str)) = false := by decide) : PE X (.Name x pos) (tVar i) := by
 intro pins s σ H Q I h
 obtain ⟨v, e, h⟩ := h
 obtain ⟨m, hn, hl⟩ := I.loc
 obtain ⟨u, r, l⟩ := hl i x v hN e hv
 have fin : EP X pins σ Q u s := ⟨v, H, I, r, h⟩
 rcases l with ⟨hk, hm⟩ | ⟨hk, c, hc, hcell⟩
 ·exact wpAny_Name (wpAny_loadName_local I.ok.kind hk hn hm fin) hd
 ·rcases hk with hk | hk
  ·exact wpAny_Name (wpAny_loadName_cell I.ok.kind hk hc hcell fin) hd
  ·exact wpAny_Name (wpAny_loadName_free I.ok.kind hk hc hcell fin hcd) hd
theorem pe_int {i j pos} : PE X (.Constant (.int i) j pos) (tC (.int i)) := fun _ _ _ H _ I h => wpAny_Constant_int ⟨.int i, H, I.tok _, ⟨_, rfl⟩, h⟩
theorem pe_bl {b j pos} : PE X (.Constant (.bool b) j pos) (tC (.bl b)) := fun _ _ _ H _ I h => Constant_bool ⟨.bl b, H, I, rfl, h⟩
theorem pe_non {j pos} : PE X (.Constant .none j pos) (tC .non) := fun _ _ _ H _ I h => Constant_none ⟨.non, H, I, rfl, h⟩
theorem pe_str {x j pos} : PE X (.Constant (.str x) j pos) (tC (.str x)) := fun _ _ _ H _ I h => Calls.Constant_str ⟨.str x, H, I.tok _, ⟨_, rfl⟩, h⟩
def Gl (X : Cx) (x : Str) : Prop := X.env.kindOf x = some .globalImplicit
theorem ld_glob {E : Value -> Shared -> Prop} {pins : List (Addr × Obj)} {s : Shared} {σ : St} {H : Hp} {x : Str} {u : Value} {pos : Pos} {Q : Value -> Shared -> Prop} (I : Inv X pins σ H s) (hg : Gl X x) (hm : X.mg x = some u) (h : Q u s)
  (hd : (x == ("__debug__" : Str)) = false := by decide) : wpAny (model X.prog X.w) X.A (eval (.Name x pos) X.env) Q E s :=
 Calls.Name_function_global I.ok.kind hg (Calls.loadGlobal_global (by rw [I.ok.glob]; exact I.mod.glob.keeps I.bk) hm h) hd
theorem ld_blt {E : Value -> Shared -> Prop} {pins : List (Addr × Obj)} {s : Shared} {σ : St} {H : Hp} {x : Str} {u : Value} {pos : Pos} {Q : Value -> Shared -> Prop} (I : Inv X pins σ H s) (hg : Gl X x) (hm : X.mg x = none) (hv : bootBuiltins x = some u) (h : Q u s)
  (hn : x ≠ "__name__" := by decide) (hd : (x == ("__debug__" : Str)) = false := by decide) : wpAny (model X.prog X.w) X.A (eval (.Name x pos) X.env) Q E s := by
 obtain ⟨mb, h1, h2⟩ := I.mod.blt
 exact Calls.Name_function_global I.ok.kind hg (Calls.loadGlobal_builtin (by rw [I.ok.glob]; exact I.mod.glob.keeps I.bk) hm (by rw [I.ok.blt]; exact h1.keeps I.bk) ((h2 x hn).trans hv) h) hd
theorem pe_glob {x : Str} {v : V} {u : Value} {pos : Pos} (hg : Gl X x) (hm : X.mg x = some u) (r : RelV v u) (hd : (x == ("__debug__" : Str)) = false := by decide) : PE X (.Name x pos) (tC v) :=
 fun _ _ _ H _ I h => ld_glob I hg hm ⟨v, H, I, r, h⟩ hd
theorem pe_bltn {x : Str} {v : V} {u : Value} {pos : Pos} (hg : Gl X x) (hm : X.mg x = none) (hv : bootBuiltins x = some u) (r : RelV v u) (hn : x ≠ "__name__" := by decide) (hd : (x == ("__debug__" : Str)) = false := by decide) : PE X (.Name x pos) (tC v) :=
 fun _ _ _ H _ I h => ld_blt I hg hm hv ⟨v, H, I, r, h⟩ hn hd
variable {a b : Expr} {ta tb : TE} {pos : Pos}
def PC (X : Cx) (op : CmpOp) (a b : Expr) (t : TE) : Prop :=
 ∀ (pins : List (Addr × Obj)) (s : Shared) (σ : St) (H : Hp) (Q : VK), Inv X pins σ H s -> t σ H Q ->
  wpAny (model X.prog X.w) X.A (eval a X.env) (fun v s₁ => wpAny (model X.prog X.w) X.A (eval b X.env) (fun u s₂ => wpAny (model X.prog X.w) X.A (compareOp op v u) (EP X pins σ Q) X.xe s₂) X.xe s₁) X.xe s
theorem nobehind (b : Expr) {op : CmpOp} (h : op ≠ .In) (h2 : op ≠ .NotIn) : behindInMarks op b = false := by
 have e1 : (op == CmpOp.In) = false := by cases op <;> first | rfl | exact absurd rfl h
 have e2 : (op == CmpOp.NotIn) = false := by cases op <;> first | rfl | exact absurd rfl h2
 cases b <;> simp [behindInMarks, e1, e2]
def tB (t : TE) : TT := fun σ H Q => t σ H fun x H1 => ∃ c, x = .bl c ∧ Q c H1
theorem pt_cmp {op : CmpOp} {t : TE} (h : PC X op a b t) (h1 : behindInMarks op b = false := by first | exact nobehind _ (by decide) (by decide) | rfl) : PT X (.Compare a [op] [b] pos) (tB t) := by
 intro pins s σ H Q I hw
 refine wpAny_isTrue_Compare1 (thn (h pins s σ H _ I hw) fun v s1 h1 => thn h1 fun u s2 h2 => thn h2 fun c s3 ⟨x, H1, I1, r1, q1⟩ => ?_) h1
 obtain ⟨d, rfl, q⟩ := q1
 cases r1
 exact wpAny_truthy_bool ⟨H1, I1, q⟩
theorem pt_val {e : Expr} {t : TE} (h : PE X e t) (he : ∀ whole, isTrue e X.env whole = (do let v ← whole; standAt e.pos; holding [v] (truthy v)) := by intro _; rfl) : PT X e (tB t) := by
 intro pins s σ H Q I hw
 refine isTrue_plain (thn (h pins s σ H _ I hw) fun v s1 ⟨x, H1, I1, r1, q1⟩ => ?_) (he _)
 obtain ⟨d, rfl, q⟩ := q1
 cases r1
 exact wpAny_truthy_bool ⟨H1, I1, q⟩
variable {tA tB' : TT} {rest : List Expr}
def tAnd (t u : TT) : TT := fun σ H Q => t σ H fun c H1 => if c = true then u σ H1 Q else Q false H1
def tOr (t u : TT) : TT := fun σ H Q => t σ H fun c H1 => if c = true then Q true H1 else u σ H1 Q
def tNot (t : TT) : TT := fun σ H Q => t σ H fun c H1 => Q (!c) H1
theorem pw_and1 (ha : PT X a tA) : PW X (.BoolOp .And [a] pos) tA := by
 intro wh pins s σ H Q I h
 refine isTrue_and (thn (ha pins s σ H Q I h) fun c s1 e => ?_)
 cases c with
 | true => exact isTrue_and_nil e
 | false => exact e
theorem pw_or1 (ha : PT X a tA) : PW X (.BoolOp .Or [a] pos) tA := by
 intro wh pins s σ H Q I h
 refine isTrue_or (thn (ha pins s σ H Q I h) fun c s1 e => ?_)
 cases c with
 | false => exact isTrue_or_nil e
 | true => exact e
theorem pw_and (ha : PT X a tA) (hb : PW X (.BoolOp .And (b :: rest) pos) tB') : PW X (.BoolOp .And (a :: b :: rest) pos) (tAnd tA tB') := by
 intro wh pins s σ H Q I h
 refine isTrue_and (thn (ha pins s σ H _ I h) fun c s1 ⟨H1, I1, q1⟩ => ?_)
 cases c with
 | true => exact hb wh pins s1 σ H1 Q I1 q1
 | false => exact ⟨H1, I1, q1⟩
theorem pw_or (ha : PT X a tA) (hb : PW X (.BoolOp .Or (b :: rest) pos) tB') : PW X (.BoolOp .Or (a :: b :: rest) pos) (tOr tA tB') := by
 intro wh pins s σ H Q I h
 refine isTrue_or (thn (ha pins s σ H _ I h) fun c s1 ⟨H1, I1, q1⟩ => ?_)
 cases c with
 | true => exact ⟨H1, I1, q1⟩
 | false => exact hb wh pins s1 σ H1 Q I1 q1
theorem pt_not (ha : PT X a tA) : PT X (.UnaryOp .Not a pos) (tNot tA) := by
 intro pins s σ H Q I h
 exact isTrue_not (ha pins s σ H (fun c H1 => Q (!c) H1) I h)
def tAndV (ta tb : TE) : TE := fun σ H Q => ta σ H fun x H1 => ∃ c, x = .bl c ∧ if c = true then tb σ H1 Q else Q (.bl false) H1
def tOrV (ta tb : TE) : TE := fun σ H Q => ta σ H fun x H1 => ∃ c, x = .bl c ∧ if c = true then Q (.bl true) H1 else tb σ H1 Q
def tNotV (ta : TE) : TE := fun σ H Q => ta σ H fun x H1 => ∃ c, x = .bl c ∧ Q (.bl (!c)) H1
theorem pe_one {op} {t : TE} (h : PE X a t) : PE X (.BoolOp op [a] pos) t := fun pins s σ H Q I hw => BoolOp_one (h pins s σ H Q I hw)
theorem pe_and (ha : PE X a ta) (hb : PE X (.BoolOp .And (b :: rest) pos) tb) : PE X (.BoolOp .And (a :: b :: rest) pos) (tAndV ta tb) := by
 intro pins s σ H Q I h
 refine BoolOp_and (thn (ha pins s σ H _ I h) fun v s1 ⟨x, H1, I1, r1, q1⟩ => ?_)
 obtain ⟨c, rfl, q1⟩ := q1
 cases r1
 refine wpAny_truthy_bool ?_
 cases c with
 | true => exact hb pins s1 σ H1 Q I1 q1
 | false => exact ⟨.bl false, H1, I1, rfl, q1⟩
theorem pe_or (ha : PE X a ta) (hb : PE X (.BoolOp .Or (b :: rest) pos) tb) : PE X (.BoolOp .Or (a :: b :: rest) pos) (tOrV ta tb) := by
 intro pins s σ H Q I h
 refine BoolOp_or (thn (ha pins s σ H _ I h) fun v s1 ⟨x, H1, I1, r1, q1⟩ => ?_)
 obtain ⟨c, rfl, q1⟩ := q1
 cases r1
 refine wpAny_truthy_bool ?_
 cases c with
 | false => exact hb pins s1 σ H1 Q I1 q1
 | true => exact ⟨.bl true, H1, I1, rfl, q1⟩
def tIf (t : TT) (ta tb : TE) : TE := fun σ H Q => t σ H fun c H1 => if c = true then ta σ H1 Q else tb σ H1 Q
end
end L2
namespace L2
open PySem PySem.Spec PyProof.Rows
def SqL (K : PySem.W.Frag) (H : Hp) (a : Addr) (xs : List V) : Prop :=
 Rd H a (.lst xs) ∨
  ∃ (o : Obj) (its : Array Value) (n : Nat), K.lookup a = some o ∧ o.cls = .type "list" ∧ o.dict = none ∧ o.data = .seq its n ∧ its.size <= sizeLine ∧ Vals xs its.toList
def SqT (K : PySem.W.Frag) (H : Hp) (a : Addr) (xs : List V) : Prop :=
 Rd H a (.tup xs) ∨
  ∃ (o : Obj) (its : Array Value) (n : Nat), K.lookup a = some o ∧ o.cls = .type "tuple" ∧ o.data = .seq its n ∧ its.size <= sizeLine ∧ Vals xs its.toList
def absV : Value -> Option V
 | .none => some .non
 | .bool b => some (.bl b)
 | .int i _ => some (.int i)
 | .str x _ => some (.str x)
 | .bytes b _ => some (.byt b)
 | .float b _ => some (.flt b)
 | .ref a => some (.ref a)
 | .type n => some (.ty n)
 | _ => none
theorem RelV.abs {x : V} {u : Value} (r : RelV x u) : absV u = some x := by
 cases x with
 | non => cases r; rfl
 | bl _ => cases r; rfl
 | int _ => obtain ⟨t, rfl⟩ := r; rfl
 | str _ => obtain ⟨t, rfl⟩ := r; rfl
 | byt _ => obtain ⟨t, rfl⟩ := r; rfl
 | flt _ => obtain ⟨t, rfl⟩ := r; rfl
 | ref _ => cases r; rfl
 | ty _ => cases r; rfl
theorem RelV.inj {x y : V} {u : Value} (r : RelV x u) (q : RelV y u) : x = y := Option.some.inj (r.abs.symm.trans q.abs)
theorem Vals.inj : ∀ {xs ys : List V} {us : List Value}, Vals xs us -> Vals ys us -> xs = ys
 | _, _, _, .nil, .nil => rfl
 | _, _, _, .cons r t, .cons r' t' => by rw [r.inj r', Vals.inj t t']
section
variable {X : Cx} {pins : List (Addr × Obj)} {σ : St} {H : Hp} {s : Shared} {a : Addr} {xs ys : List V}
theorem SqL.of {K : PySem.W.Frag} (h : H a = some (.lst xs)) : SqL K H a xs := .inl (.inl h)
theorem SqT.of {K : PySem.W.Frag} (h : H a = some (.tup xs)) : SqT K H a xs := .inl (.inl h)
theorem Inv.list (I : Inv X pins σ H s) (h : SqL X.K H a xs) : ∃ its : List Value, Vals xs its ∧ PlainL s.heap a its.toArray ∧ xs.length <= sizeLine := by
 rcases h with h | ⟨o, its, n, hk, hc, hd, hs, hz, r⟩
 ·obtain ⟨z, its, n, r, e⟩ := h.ok I.hok
  exact ⟨its, r, ⟨_, n, e, rfl, rfl, rfl⟩, z⟩
 ·refine ⟨its.toList, r, ⟨o, n, I.kIn a o hk, hc, hd, by simpa using hs⟩, ?_⟩
  have e := r.length
  simp only [Array.length_toList] at e
  omega
theorem Inv.tuple (I : Inv X pins σ H s) (h : SqT X.K H a xs) : ∃ its : List Value, Vals xs its ∧ IsTup s.heap a its.toArray ∧ xs.length <= sizeLine := by
 rcases h with h | ⟨o, its, n, hk, hc, hs, hz, r⟩
 ·obtain ⟨z, its, r, p⟩ := h.ok I.hok
  exact ⟨its, r, p, z⟩
 ·refine ⟨its.toList, r, ⟨o, I.kIn a o hk, hc, n, by simpa using hs⟩, ?_⟩
  have e := r.length
  simp only [Array.length_toList] at e
  omega
theorem Inv.list_inj (I : Inv X pins σ H s) (h : SqL X.K H a xs) (h' : SqL X.K H a ys) : xs = ys := by
 obtain ⟨its, r, ⟨o, n, e, _, _, d⟩, _⟩ := I.list h
 obtain ⟨its', r', ⟨o', n', e', _, _, d'⟩, _⟩ := I.list h'
 rw [e] at e'; cases e'
 rw [d] at d'
 injection d' with d1 _
 have : its = its' := by simpa using congrArg Array.toList d1
 subst this
 exact r.inj r'
theorem Inv.tuple_inj (I : Inv X pins σ H s) (h : SqT X.K H a xs) (h' : SqT X.K H a ys) : xs = ys := by
 obtain ⟨its, r, ⟨o, e, _, n, d⟩, _⟩ := I.tuple h
 obtain ⟨its', r', ⟨o', e', _, n', d'⟩, _⟩ := I.tuple h'
 rw [e] at e'; cases e'
 rw [d] at d'
 injection d' with d1 _
 have : its = its' := by simpa using congrArg Array.toList d1
 subst this
 exact r.inj r'
end
abbrev Cx.wish (X : Cx) (E : Value -> Shared -> Prop) : Cx := { X with xe := E }
abbrev Cx.nox (X : Cx) : Cx := X.wish fun _ _ => False
theorem Cx.Ok.wish {X : Cx} (ok : X.Ok) (E : Value -> Shared -> Prop) : (X.wish E).Ok :=
 ⟨ok.mod, ok.kind, ok.glob, ok.blt, ok.above, ok.inj, ok.has, ok.cab, ok.hd, ok.frames, ok.stk, ok.exf, ok.bs, ok.bsz, ok.noex, ok.exfs, ok.funs, ok.frf⟩
theorem Cx.Ok.unwish {X : Cx} {E : Value -> Shared -> Prop} (ok : (X.wish E).Ok) : X.Ok :=
 ⟨ok.mod, ok.kind, ok.glob, ok.blt, ok.above, ok.inj, ok.has, ok.cab, ok.hd, ok.frames, ok.stk, ok.exf, ok.bs, ok.bsz, ok.noex, ok.exfs, ok.funs, ok.frf⟩
section
variable {X : Cx} {pins : List (Addr × Obj)} {σ : St} {H : Hp} {s : Shared} {E : Value -> Shared -> Prop}
theorem Inv.wish (I : Inv X pins σ H s) (E : Value -> Shared -> Prop) : Inv (X.wish E) pins σ H s := ⟨I.ok.wish E, I.os, I.bare, I.base, I.loc, I.cell, I.free, I.freeC, I.pin, I.hok, I.len⟩
theorem Inv.unwish (I : Inv (X.wish E) pins σ H s) : Inv X pins σ H s := ⟨I.ok.unwish, I.os, I.bare, I.base, I.loc, I.cell, I.free, I.freeC, I.pin, I.hok, I.len⟩
theorem SP.unwish {D : Ends} {f : Flow} {s' : Shared} (h : SP (X.wish E) pins D f s') : SP X pins D f s' := by
 cases f with
 | next => obtain ⟨σ', H', I, q⟩ := h; exact ⟨σ', H', I.unwish, q⟩
 | brk => obtain ⟨σ', H', I, q⟩ := h; exact ⟨σ', H', I.unwish, q⟩
 | cont => obtain ⟨σ', H', I, q⟩ := h; exact ⟨σ', H', I.unwish, q⟩
 | ret u => obtain ⟨v, σ', H', I, r, q⟩ := h; exact ⟨v, σ', H', I.unwish, r, q⟩
theorem PT.nox {e : Expr} {t : TT} (h : PT X.nox e t) : PT X e t := fun pins s σ H Q I hw =>
 wpAny_mono (h pins s σ H Q (I.wish _) hw) (fun _ _ ⟨H', I', q⟩ => ⟨H', I'.unwish, q⟩) fun _ _ z => False.elim z
theorem PSs.nox {st : List Stmt} {t : TS} (h : PSs X.nox st t) : PSs X st t := fun pins s σ H D I hw =>
 wpAny_mono (h pins s σ H D (I.wish _) hw) (fun _ _ q => q.unwish) fun _ _ z => False.elim z
end
section
variable {X : Cx} {st : Stmt} {rest : List Stmt} {t u : TS} {e : Expr} {te : TE} {pos : Pos}
def tNext : TS := fun D σ H => D.nx σ H
def tSeq (t u : TS) : TS := fun D σ H => t { D with nx := u D } σ H
theorem pss_nil : PSs X [] tNext := fun _ _ σ H _ I h => wpAny_execs_nil ⟨σ, H, I, h⟩
theorem pss_cons (h1 : PS X st t) (h2 : PSs X rest u) : PSs X (st :: rest) (tSeq t u) := by
 intro pins s σ H D I h
 refine wpAny_execs_cons (thn (h1 pins s σ H { D with nx := u D } I h) fun f s1 q => ?_)
 cases f with
 | next =>
  obtain ⟨σ', H', I', q⟩ := q
  exact h2 pins s1 σ' H' D I' q
 | ret v => exact q
 | brk => exact q
 | cont => exact q
theorem pss_one (h1 : PS X st t) : PSs X [st] t := by
 intro pins s σ H D I h
 refine wpAny_execs_cons (thn (h1 pins s σ H D I h) fun f s1 q => ?_)
 cases f with
 | next => exact wpAny_execs_nil q
 | ret v => exact q
 | brk => exact q
 | cont => exact q
def tBreak : TS := fun D σ H => D.bk σ H
def tCont : TS := fun D σ H => D.ct σ H
theorem Inv.quiet {pins : List (Addr × Obj)} {σ : St} {H : Hp} {s : Shared} (I : Inv X pins σ H s) : interactive X.env = false := by simp [interactive, I.ok.kind]
def tDrop (te : TE) : TS := fun D σ H => te σ H fun _ H1 => D.nx σ H1
theorem ps_expr (he : PE X e te) (hs : swapsWith e none pos.line X.env = pure false := by rfl) : PS X (.Expr e pos) (tDrop te) := by
 intro pins s σ H D I h
 exact wpAny_Expr_any (thn (he pins s σ H _ I h) fun v s1 ⟨x, H1, I1, r1, q1⟩ => ⟨σ, H1, I1, q1⟩) I.quiet hs
def tRet (te : TE) : TS := fun D σ H => te σ H D.rt
theorem ps_ret (he : PE X e te) : PS X (.Return (some e) pos) (tRet te) := by
 intro pins s σ H D I h
 exact wpAny_Return_some (thn (he pins s σ H _ I h) fun v s1 ⟨x, H1, I1, r1, q1⟩ => ⟨x, σ, H1, I1, r1, q1⟩)
def tRetN : TS := fun D _ H => D.rt .non H
def tIfS (c : TT) (t u : TS) : TS := fun D σ H => c σ H fun b H1 => if b = true then t D σ H1 else u D σ H1
theorem ps_if {c : Expr} {a b : List Stmt} {tc : TT} (hc : PT X c tc) (ha : PSs X a t) (hb : PSs X b u) : PS X (.If c a b pos) (tIfS tc t u) := by
 intro pins s σ H D I h
 refine wpAny_If (thn (hc pins s σ H _ I h) fun d s1 ⟨H1, I1, q1⟩ => ?_)
 cases d with
 | true => exact ha pins s1 σ H1 D I1 q1
 | false => exact hb pins s1 σ H1 D I1 q1
end
abbrev TG := V -> St -> Hp -> (St -> Hp -> Prop) -> Prop
abbrev TGs := List V -> St -> Hp -> (St -> Hp -> Prop) -> Prop
def PG (X : Cx) (target : Expr) (t : TG) : Prop :=
 ∀ (pins : List (Addr × Obj)) (s : Shared) (σ : St) (H : Hp) (v : V) (u : Value) (Q : St -> Hp -> Prop), Inv X pins σ H s -> RelV v u -> t v σ H Q ->
  wpAny (model X.prog X.w) X.A (assign target X.env u) (fun _ s' => ∃ σ' H', Inv X pins σ' H' s' ∧ Q σ' H') X.xe s
def PGs (X : Cx) (ts : List Expr) (t : TGs) : Prop :=
 ∀ (pins : List (Addr × Obj)) (s : Shared) (σ : St) (H : Hp) (vs : List V) (us : List Value) (Q : St -> Hp -> Prop), Inv X pins σ H s -> Vals vs us -> t vs σ H Q ->
  wpAny (model X.prog X.w) X.A (assignInOrder ((assignEach ts X.env).map (·.2)) us) (fun _ s' => ∃ σ' H', Inv X pins σ' H' s' ∧ Q σ' H') X.xe s
abbrev TSet := V -> V -> V -> Hp -> (Hp -> Prop) -> Prop
def PSet (X : Cx) (t : TSet) : Prop :=
 ∀ (pins : List (Addr × Obj)) (s : Shared) (σ : St) (H : Hp) (o i v : V) (ov iv u : Value) (Q : Hp -> Prop), Inv X pins σ H s -> RelV o ov -> RelV i iv -> RelV v u -> t o i v H Q ->
  wpAny (model X.prog X.w) X.A (setItem ov iv u) (fun _ s' => ∃ H', Inv X pins σ H' s' ∧ Q H') X.xe s
abbrev TIp := V -> V -> Hp -> VK -> Prop
section
variable {X : Cx} {pos : Pos}
def gName (i : Nat) : TG := fun v σ H Q => Q (σ.set i (some v)) H
theorem pg_name {i : Nat} {x : Str} (hN : X.N.Nodup) (hi : X.N[i]? = some x) (hx : Loc X.env.scope x) (hf : X.fn x = true ∨ X.env.scope.names.lookup x = some .local := by first | exact .inl rfl | exact .inr rfl | assumption) : PG X (.Name x pos) (gName i) := by
 intro pins s σ H v u Q I r h
 exact wpAny_assign_Name (store_ok I hN hi hx r (fun s' I' => ⟨_, H, I', h⟩) hf)
def gNil : TGs := fun vs σ H Q => vs = [] ∧ Q σ H
def gCons (t : TG) (u : TGs) : TGs := fun vs σ H Q => ∃ v r, vs = v :: r ∧ t v σ H fun σ' H' => u r σ' H' Q
theorem pgs_nil : PGs X [] gNil := by
 intro pins s σ H vs us Q I r h
 obtain ⟨e, h⟩ := h
 subst e
 cases r
 exact assignInOrder_nil ⟨σ, H, I, h⟩
theorem pgs_cons {e : Expr} {es : List Expr} {t : TG} {u : TGs} (h1 : PG X e t) (h2 : PGs X es u)
  (hs : (assignEach (e :: es) X.env).map (·.2) = assign e X.env :: (assignEach es X.env).map (·.2) := by rfl) : PGs X (e :: es) (gCons t u) := by
 intro pins s σ H vs us Q I r h
 obtain ⟨v, vr, e1, h⟩ := h
 subst e1
 cases r with
 | cons r rr =>
  rw [hs]
  refine assignInOrder_cons (thn (h1 pins s σ H _ _ _ I r h) fun _ s1 ⟨σ1, H1, I1, q1⟩ => ?_)
  exact h2 pins s1 σ1 H1 _ _ Q I1 rr q1
def gTup (K : PySem.W.Frag) (n : Nat) (t : TGs) : TG := fun v σ H Q => ∃ a xs, v = .ref a ∧ SqT K H a xs ∧ xs.length = n ∧ t xs σ H Q
theorem pg_tup {es : List Expr} {k : Nat} {t : TGs} {n : Nat} (hc : X.calm = true) (h : PGs X es t)
  (hn : (assignEach es X.env).length = n := by rfl) (hst : (assignEach es X.env).findIdx? (·.1) = none := by rfl) : PG X (.Tuple es k pos) (gTup X.K n t) := by
 intro pins s σ H v u Q I r hw
 obtain ⟨a, xs, e1, hq, hl, hw⟩ := hw
 subst e1
 cases r
 obtain ⟨its, rv, ht, hz⟩ := I.tuple hq
 refine assign_Tuple_tuple (I.ok.hd hc) ht (by simp [hn, ← hl, rv.length]) hst fun h' hx => ?_
 have I1 : Inv X pins σ H { s with heap := h' } := I.kept (t' := s.toks) fun b o e => hx b o (Nat.ne_of_lt (Heap.lt_size e)) e
 exact h pins _ σ H xs _ Q I1 (by simpa using rv) hw
def gSub (to ti : TE) (t : TSet) : TG := fun v σ H Q => to σ H fun o H1 => ti σ H1 fun i H2 => t o i v H2 fun H3 => Q σ H3
theorem pg_sub {o i : Expr} {to ti : TE} {t : TSet} (ho : PE X o to) (hi : PE X i ti) (hs : PSet X t)
  (ha : ∀ v, assign (.Subscript o i pos) X.env v = (do
   let ov ← holding [v] (eval o X.env)
   let iv ← holding [v, ov] (eval i X.env)
   standAt pos
   holding [v, ov, iv] (setItem ov iv v)
   release [v, ov, iv] []) := by intro _; rfl) : PG X (.Subscript o i pos) (gSub to ti t) := by
 intro pins s σ H v u Q I r h
 rw [ha]
 refine wpAny_bind (wpAny_holding (thn (ho pins s σ H _ I h) fun ov s1 ⟨x, H1, I1, r1, q1⟩ => ?_))
 refine wpAny_bind (wpAny_holding (thn (hi pins s1 σ H1 _ I1 q1) fun iv s2 ⟨y, H2, I2, r2, q2⟩ => ?_))
 refine wpAny_bind (wpAny_standAt (wpAny_bind (wpAny_holding (thn (hs pins s2 σ H2 x y v ov iv u _ I2 r1 r2 r q2) fun _ s3 ⟨H3, I3, q3⟩ => ?_))))
 exact wpAny_release ⟨σ, H3, I3, q3⟩
def tAsg (te : TE) (g : TG) : TS := fun D σ H => te σ H fun x H1 => g x σ H1 D.nx
theorem ps_asg {tg e : Expr} {te : TE} {g : TG} (he : PE X e te) (hg : PG X tg g) (hs : swapsWithSole [tg] e pos.line X.env = pure false := by rfl) (hw : swappedStores [tg] e X.env = pure none := by rfl)
  (h1 : (assignEach [tg] X.env).map (·.2) = [assign tg X.env] := by rfl) : PS X (.Assign [tg] e pos) (tAsg te g) := by
 intro pins s σ H D I h
 refine wpAny_Assign_stores (thn (he pins s σ H _ I h) fun v s1 ⟨x, H1, I1, r1, q1⟩ => ?_) hs hw
 rw [h1]
 exact thn (hg pins s1 σ H1 x v _ I1 r1 q1) fun _ s2 q => q
theorem ps_set {i : Nat} {x : Str} {e : Expr} {te : TE} {pos' : Pos} (hN : X.N.Nodup) (hi : X.N[i]? = some x) (hx : Loc X.env.scope x) (he : PE X e te) (hs : swapsWith e (some (.Name x pos')) pos.line X.env = pure false := by rfl) (hf : X.fn x = true ∨ X.env.scope.names.lookup x = some .local := by first | exact .inl rfl | exact .inr rfl | assumption) :
  PS X (.Assign [.Name x pos'] e pos) (tAsg te (gName i)) := by
 intro pins s σ H D I h
 refine wpAny_Assign_Name (thn (he pins s σ H _ I h) fun v s1 ⟨y, H1, I1, r1, q1⟩ => ?_) hs
 exact store_ok I1 hN hi hx r1 (fun s2 I2 => ⟨_, H1, I2, q1⟩) hf
def tAug (i : Nat) (te : TE) (ti : TIp) : TS := fun D σ H => ∃ x, σ[i]? = some (some x) ∧ te σ H fun y H1 => ti x y H1 fun z H2 => D.nx (σ.set i (some z)) H2
def tAugS (to ti te : TE) (tget : V -> V -> Hp -> VK -> Prop) (tip : TIp) (tset : TSet) : TS := fun D σ H => to σ H fun o H1 => ti σ H1 fun i H2 => tget o i H2 fun x H3 => te σ H3 fun y H4 => tip x y H4 fun z H5 => tset o i z H5 fun H6 => D.nx σ H6
def ipI (f : Int -> Int -> Int) : TIp := fun x y H Q => ∃ i j, x = .int i ∧ y = .int j ∧ Q (.int (f i j)) H
end
section
variable {X : Cx} {pos : Pos}
def tWhile (c : TT) (tb : TS) : TS := fun D σ H => ∃ W : Nat -> St -> Hp -> Prop, (∃ m, W m σ H) ∧ ∀ m σ H, W m σ H ->
 c σ H fun b H1 => if b = true then ∃ N : St -> Hp -> Prop, (∀ σ' H', N σ' H' -> ∃ m', m' < m ∧ W m' σ' H') ∧ tb { D with nx := N, ct := N, bk := D.nx } σ H1 else D.nx σ H1
theorem ps_while {c : Expr} {body : List Stmt} {tc : TT} {tb : TS} (hp : PassesOwn (model X.prog X.w) X.A X.env X.xe) (hc : PT X c tc) (hb : PSs X body tb) : PS X (.While c body [] pos) (tWhile tc tb) := by
 intro pins s σ H D I h
 obtain ⟨W, ⟨m0, w0⟩, turn⟩ := h
 refine wpAny_While (codeAny_whileLoop (fun n s' => ∃ σ' H', Inv X pins σ' H' s' ∧ W n σ' H') ?_ m0 ⟨σ, H, I, w0⟩)
 rintro n s1 ⟨σ1, H1, I1, w1⟩
 refine wpAny_passesOwn hp (thn (hc pins s1 σ1 H1 _ I1 (turn n σ1 H1 w1)) fun b s2 ⟨H2, I2, q2⟩ => ?_)
 cases b with
 | true =>
  obtain ⟨N, hN, q2⟩ := q2
  rw [if_pos rfl]
  refine wpAny_passesOwn hp (thn (hb pins s2 σ1 H2 _ I2 q2) fun f s3 q3 => ?_)
  cases f with
  | next =>
   obtain ⟨σ3, H3, I3, n3⟩ := q3
   obtain ⟨m', hm, w3⟩ := hN σ3 H3 n3
   exact ⟨m', hm, σ3, H3, I3, w3⟩
  | cont =>
   obtain ⟨σ3, H3, I3, n3⟩ := q3
   obtain ⟨m', hm, w3⟩ := hN σ3 H3 n3
   exact ⟨m', hm, σ3, H3, I3, w3⟩
  | brk => exact q3
  | ret v => exact q3
 | false =>
  rw [if_neg Bool.false_ne_true]
  exact wpAny_execs_nil ⟨σ1, H2, I2, q2⟩
end
structure It where
 go : Nat -> Hp -> Prop
 yld : Nat -> Hp -> V -> Hp -> Prop
 stop : Nat -> Hp -> Prop
def FpOk (X : Cx) (pins : List (Addr × Obj)) (H : Hp) (b : Addr) : Prop :=
 H b = none ∧ b ≠ X.env.locals ∧ b ∉ X.fs ∧ (b ∈ X.ex ∨ X.s₀.heap.objs.size <= b) ∧ (∀ x c, X.env.cells.lookup x = some c -> c ≠ b) ∧ ∀ p ∈ X.pn ++ pins, p.1 ≠ b
theorem Inv.fpOk {X : Cx} {pins : List (Addr × Obj)} {σ : St} {H H' : Hp} {s : Shared} {b : Addr} (I : Inv X pins σ H s) (hb : s.heap.objs.size <= b) (hn : H' b = none) : FpOk X pins H' b := by
 refine ⟨hn, Nat.ne_of_gt (Nat.lt_of_lt_of_le I.lt hb), I.nofs hb, .inr (Nat.le_trans I.sz hb), fun x c e z => ?_, fun p hp z => ?_⟩
 ·obtain ⟨v, q⟩ := I.cell x c e
  exact absurd (Nat.lt_of_lt_of_le q.lt (by rw [z]; exact hb)) (Nat.lt_irrefl _)
 ·exact absurd (Nat.lt_of_lt_of_le (Heap.lt_size (I.pin p hp).1) (by rw [z]; exact hb)) (Nat.lt_irrefl _)
structure Turn (P : Program) (w : World) (K : PySem.W.Frag) (tg : Expr) (J : It) (fp : List Addr) (it : Addr) (tn : Nat -> Heap -> Prop) : Prop where
 mem : it ∈ fp
 obj : ∀ i h, tn i h -> ∀ b ∈ fp, ∃ o, h.get? b = some o ∧ ∀ v, o.data ≠ .cell v
 keep : ∀ i h h', tn i h -> (∀ b ∈ fp, ∀ o, h.get? b = some o -> h'.get? b = some o) -> tn i h'
 item : ∀ (X : Cx), X.prog = P -> X.w = w -> X.K = K -> X.calm = true -> ∀ (i : Nat) (pins : List (Addr × Obj)) (s : Shared) (σ : St) (H : Hp) (E : Value -> Shared -> Prop), Inv X pins σ H s -> (∀ b ∈ fp, FpOk X pins H b) -> tn i s.heap -> J.go i H ->
  wpAny (model P w) X.A (pyNext (.ref it)) (fun r s1 => ∃ u, r = some u ∧
   wpAny (model P w) X.A (letOwnedTupleGo tg (.ref it) u) (fun _ s2 => ∃ x H', Inv X pins σ H' s2 ∧ RelV x u ∧ J.yld i H x H' ∧ tn (i + 1) s2.heap ∧ ∀ b ∈ fp, H' b = none) E s1) E s
 done : ∀ (X : Cx), X.prog = P -> X.w = w -> X.K = K -> X.calm = true -> ∀ (i : Nat) (pins : List (Addr × Obj)) (s : Shared) (σ : St) (H : Hp) (E : Value -> Shared -> Prop), Inv X pins σ H s -> (∀ b ∈ fp, FpOk X pins H b) -> tn i s.heap -> J.stop i H ->
  wpAny (model P w) X.A (pyNext (.ref it)) (fun r s1 => r = none ∧ Inv X pins σ H s1) E s
 self : ∀ (A : Around) (i : Nat) (s : Shared) (Q : Value -> Shared -> Prop) (E : Value -> Shared -> Prop), tn i s.heap -> Q (.ref it) s -> wpAny (model P w) A (pyIter (.ref it)) Q E s
abbrev TI := St -> Hp -> (It -> Hp -> Prop) -> Prop
def PIE (X : Cx) (pins : List (Addr × Obj)) (σ : St) (tg : Expr) (R : It -> Hp -> Prop) (itv : Value) (s2 : Shared) : Prop :=
 ∃ (it : Addr) (fp : List Addr) (tn : Nat -> Heap -> Prop) (J : It) (H' : Hp), itv = .ref it ∧ Inv X pins σ H' s2 ∧ Turn X.prog X.w X.K tg J fp it tn ∧ tn 0 s2.heap ∧ (∀ b ∈ fp, FpOk X pins H' b) ∧ R J H'
def PI (X : Cx) (tg iter : Expr) (wi : TI) : Prop :=
 ∀ (pins : List (Addr × Obj)) (s : Shared) (σ : St) (H : Hp) (R : It -> Hp -> Prop), Inv X pins σ H s -> wi σ H R ->
  wpAny (model X.prog X.w) X.A (eval iter X.env) (fun v s1 => wpAny (model X.prog X.w) X.A (pyIter v) (PIE X pins σ tg R) X.xe s1) X.xe s
theorem go_of {M : Model} {A : Around} {E : Value -> Shared -> Prop} {s : Shared} {tg : Expr} {it : Addr} {u : Value} {o : Obj} {n : String} {vs : Array Value} {Q : Unit -> Shared -> Prop} (ho : s.heap.get? it = some o) (hc : o.cls = .type n) (hd : o.data = .fields vs)
  (hn : ["enumerate", "zip", "dict_itemiterator", "dict_reverseitemiterator", "odict_iterator", "itertools.zip_longest", "itertools.pairwise"].contains n = false) (hQ : Q () s) : wpAny M A (letOwnedTupleGo tg (.ref it) u) Q E s := by
 unfold letOwnedTupleGo
 cases tg <;> first
  | exact wpAny_pure hQ
  |(cases u <;> first
    | exact wpAny_pure hQ
    |(refine wpAny_bind (wpAny_load ho ?_)
      rw [hc, hd]
      show wpAny M A (if (["enumerate", "zip", "dict_itemiterator", "dict_reverseitemiterator", "odict_iterator", "itertools.zip_longest", "itertools.pairwise"].contains n && vs[0]? == some (rawInt _)) = true then _ else _) Q E s
      rw [if_neg (by intro h; rw [hn, Bool.false_and] at h; cases h)]
      exact wpAny_pure hQ))
def Itl (K : PySem.W.Frag) (a : Addr) : It :=
 ⟨fun i H => ∃ xs x, SqL K H a xs ∧ xs[i]? = some x, fun i H x H' => H' = H ∧ ∀ xs, SqL K H a xs -> xs[i]? = some x, fun i H => ∃ xs, SqL K H a xs ∧ xs.length <= i⟩
def Itt (K : PySem.W.Frag) (a : Addr) : It :=
 ⟨fun i H => ∃ xs x, SqT K H a xs ∧ xs[i]? = some x, fun i H x H' => H' = H ∧ ∀ xs, SqT K H a xs -> xs[i]? = some x, fun i H => ∃ xs, SqT K H a xs ∧ xs.length <= i⟩
def Itr (lo : Int) (n : Nat) : It := ⟨fun i _ => i < n, fun i H x H' => H' = H ∧ x = .int (lo + i), fun i _ => n <= i⟩
theorem turn_list {P : Program} {w : World} {K : PySem.W.Frag} {tg : Expr} (a it : Addr) : Turn P w K tg (Itl K a) [it] it (fun i h => h.IsListIter it a i) where
 mem := by simp
 obj := fun i h st b hb => by
  have e : b = it := by simpa using hb
  subst e
  obtain ⟨o, e, c, d⟩ := st
  exact ⟨o, e, fun v z => by rw [d] at z; cases z⟩
 keep := fun i h h' st k => st.at fun o e => k it (by simp) o e
 item := by
  intro X hP hw hK hc i pins s σ H E I hf st hg
  subst hP hw hK
  obtain ⟨xs, x, hq, hx⟩ := hg
  obtain ⟨its, rv, p, hz⟩ := I.list hq
  obtain ⟨u, hu, ru⟩ := rv.get hx
  obtain ⟨f0, f1, f2, f3, f4, f5⟩ := hf it (by simp)
  refine wpAny_pyNext_list_item st p.isList (x := u) (by simpa using hu) fun h' st' sb => ?_
  have I1 : Inv X pins σ H { s with heap := h' } := I.turned (t' := s.toks) (fun b o hb e => (sb.2 b hb).trans e) f0 f1 f3 f4 f5
  obtain ⟨o, e, c, d⟩ := id st'
  exact ⟨u, rfl, go_of (s := { s with heap := h' }) e c d (by decide) ⟨x, H, I1, ru, ⟨rfl, fun ys hy => by rw [I.list_inj hy hq]; exact hx⟩, st', fun b hb => (hf b hb).1⟩⟩
 done := by
  intro X hP hw hK hc i pins s σ H E I hf st hg
  subst hP hw hK
  obtain ⟨xs, hq, hx⟩ := hg
  obtain ⟨its, rv, p, hz⟩ := I.list hq
  obtain ⟨f0, f1, f2, f3, f4, f5⟩ := hf it (by simp)
  have hl := rv.length
  exact wpAny_pyNext_list_end (I.ok.hd hc) st p.isList (by simp; omega) fun h' eb => ⟨rfl, I.turned (t' := s.toks) (fun b o hb e => eb b o hb e) f0 f1 f3 f4 f5⟩
 self := fun _ _ _ _ _ st h => wpAny_pyIter_listiter st h
theorem turn_range {P : Program} {w : World} {K : PySem.W.Frag} {tg : Expr} (it : Addr) (lo : Int) (n : Nat) : Turn P w K tg (Itr lo n) [it] it (fun i h => IsRangeIter h it (lo + (i : Nat) * 1) ((n : Int) - (i : Nat)) 1) where
 mem := by simp
 obj := fun i h st b hb => by
  have e : b = it := by simpa using hb
  subst e
  exact ⟨_, st, fun v z => by
   have z' : Data.fields _ = Data.cell v := z
   cases z'⟩
 keep := fun i h h' st k => k it (by simp) _ st
 item := by
  intro X hP hw hK hc i pins s σ H E I hf st hg
  subst hP hw hK
  obtain ⟨f0, f1, f2, f3, f4, f5⟩ := hf it (by simp)
  have W := Walks.range (prog := X.prog) (w := X.w) (I.ok.hd hc) it lo 1 n
  refine W.item i s _ _ hg st fun v h' tk hv st' kk => ?_
  obtain ⟨t, rfl⟩ := hv
  have I1 : Inv X pins σ H { s with heap := h', toks := tk } := I.turned (fun b o hb e => kk b o (by simpa using hb) e) f0 f1 f3 f4 f5
  refine ⟨_, rfl, go_of (s := { s with heap := h', toks := tk }) (n := "range_iterator") st' rfl rfl (by decide) ⟨.int (lo + i), H, I1, ⟨t, ?_⟩, ⟨rfl, rfl⟩, st', fun b hb => (hf b hb).1⟩⟩
  rw [Int.mul_one]
 done := by
  intro X hP hw hK hc i pins s σ H E I hf st hg
  subst hP hw hK
  obtain ⟨f0, f1, f2, f3, f4, f5⟩ := hf it (by simp)
  exact wpAny_pyNext_range_end (I.ok.hd hc) st (by have : n <= i := hg; omega) fun h' eb => ⟨rfl, I.turned (t' := s.toks) (fun b o hb e => eb b o hb e) f0 f1 f3 f4 f5⟩
 self := fun _ _ _ _ _ st h => wpAny_pyIter_rangeiter st h
end L2
namespace L2
open PySem PySem.Spec PyProof.Rows
section
variable {X : Cx} {tg : Expr}
def iList (K : PySem.W.Frag) (tl : TE) : TI := fun σ H R => tl σ H fun x H1 => ∃ a, x = .ref a ∧ (∃ xs, SqL K H1 a xs) ∧ R (Itl K a) H1
def iTup (K : PySem.W.Frag) (tl : TE) : TI := fun σ H R => tl σ H fun x H1 => ∃ a, x = .ref a ∧ (∃ xs, SqT K H1 a xs) ∧ R (Itt K a) H1
theorem pi_list {l : Expr} {tl : TE} (hl : PE X l tl) : PI X tg l (iList X.K tl) := by
 intro pins s σ H R I h
 refine thn (hl pins s σ H _ I h) fun v s1 ⟨x, H1, I1, r1, q1⟩ => ?_
 obtain ⟨a, e, ⟨xs, hq⟩, q⟩ := q1
 subst e
 cases r1
 obtain ⟨its, rv, p, hz⟩ := I1.list hq
 refine wpAny_pyIter_list p.isList ?_
 refine ⟨s1.heap.objs.size, [s1.heap.objs.size], _, _, H1, rfl, I1.kept (t' := s1.toks) fun b o e => Heap.get?_push_of_some _ e, turn_list a _, ⟨_, Heap.get?_push_size _ rfl, rfl, rfl⟩, fun b hb => ?_, q⟩
 have e : b = s1.heap.objs.size := by simpa using hb
 subst e
 exact I1.fpOk (Nat.le_refl _) (I1.hok.fresh (Nat.le_refl _))
theorem range_it {pins : List (Addr × Obj)} {σ : St} {H : Hp} {s : Shared} {R : It -> Hp -> Prop} {E : Value -> Shared -> Prop} {lo hi : Int} {t u v : Tok} {tk : Nat} (I : Inv X pins σ H s) (h1 : -(2 ^ 62) <= lo) (h2 : lo < 2 ^ 62) (h3 : -(2 ^ 62) <= hi) (h4 : hi < 2 ^ 62)
  (q : R (Itr lo (hi - lo).toNat) H) : wpAny (model X.prog X.w) X.A (pyIter (.ref s.heap.objs.size)) (PIE X pins σ tg R) E { s with heap := s.heap.push { cls := .type "range", data := .fields #[.int lo t, .int hi u, .int 1 v] }, toks := tk } := by
 refine wpAny_pyIter_range (IsRange.new ..) (small_one h1 h2 h3 h4) ?_
 have I1 : Inv X pins σ H { s with heap := s.heap.push { cls := .type "range", data := .fields #[.int lo t, .int hi u, .int 1 v] }, toks := tk } := I.kept fun b o e => Heap.get?_push_of_some _ e
 refine ⟨(s.heap.push { cls := .type "range", data := .fields #[.int lo t, .int hi u, .int 1 v] }).objs.size, [(s.heap.push { cls := .type "range", data := .fields #[.int lo t, .int hi u, .int 1 v] }).objs.size], _, _, H, rfl,
  I1.kept (t' := tk) fun b o e => Heap.get?_push_of_some _ e, turn_range _ lo (hi - lo).toNat, ?_, fun b hb => ?_, q⟩
 ·have e1 : lo + ((0 : Nat) : Int) * 1 = lo := by simp
  have e2 : (((hi - lo).toNat : Nat) : Int) - ((0 : Nat) : Int) = Builtin.Range.rangeSize lo hi 1 := by rw [rangeSize_one]; split <;> omega
  show IsRangeIter _ _ (lo + ((0 : Nat) : Int) * 1) ((((hi - lo).toNat : Nat) : Int) - ((0 : Nat) : Int)) 1
  rw [e1, e2]
  exact Heap.get?_push_size _ rfl
 ·have e : b = (s.heap.push { cls := .type "range", data := .fields #[.int lo t, .int hi u, .int 1 v] }).objs.size := by simpa using hb
  subst e
  exact I1.fpOk (Nat.le_refl _) (I1.hok.fresh (Nat.le_refl _))
def iRng1 (ta : TA) : TI := fun σ H R => ta σ H fun vs H1 => ∃ j : Int, vs = [.int j] ∧ -(2 ^ 62) <= j ∧ j < 2 ^ 62 ∧ R (Itr 0 j.toNat) H1
def iRng2 (ta : TA) : TI := fun σ H R => ta σ H fun vs H1 => ∃ i j : Int, vs = [.int i, .int j] ∧ (-(2 ^ 62) <= i ∧ i < 2 ^ 62 ∧ -(2 ^ 62) <= j ∧ j < 2 ^ 62) ∧ R (Itr i (j - i).toNat) H1
theorem pi_range1 {a : Expr} {ta : TA} {p pos : Pos} (hg : Gl X "range") (hm : X.mg "range" = none) (ha : PA X [a] ta) (hs : starEach [a] X.env = [(false, eval a X.env)] := by rfl) : PI X tg (.Call (.Name "range" p) [a] [] pos) (iRng1 ta) := by
 intro pins s σ H R I h
 refine Call_ (ld_blt I hg hm boot_range (PyProof.Rows.callWith_type1 (thn (ha pos pins s σ H _ I h) fun us s1 ⟨vs, H1, I1, r1, q1⟩ => ?_) hs rfl))
 obtain ⟨j, e, q1, q2, q⟩ := q1
 subst e
 cases r1 with
 | cons r rr =>
  cases rr
  obtain ⟨t, rfl⟩ := r
  exact call_range_1 (range_it I1 (by omega) (by omega) q1 q2 (by simpa using q))
def tFor (wi : TI) (g : TG) (tb : TS) : TS := fun D σ H => wi σ H fun J H1 => ∃ W : Nat -> Nat -> St -> Hp -> Prop, (∃ m, W 0 m σ H1) ∧ ∀ i m σ H, W i m σ H ->
 (J.stop i H ∧ D.nx σ H) ∨ (J.go i H ∧ ∃ N : St -> Hp -> Prop, (∀ σ' H', N σ' H' -> ∃ m', m' < m ∧ W (i + 1) m' σ' H') ∧ ∀ x H', J.yld i H x H' -> g x σ H' fun σ2 H2 => tb { D with nx := N, ct := N, bk := D.nx } σ2 H2)
def pinsAt (fp : List Addr) (h : Heap) : List (Addr × Obj) := fp.filterMap fun b => (h.get? b).map fun o => (b, o)
theorem mem_pinsAt {fp : List Addr} {h : Heap} {b : Addr} {o : Obj} (hb : b ∈ fp) (e : h.get? b = some o) : (b, o) ∈ pinsAt fp h := List.mem_filterMap.mpr ⟨b, hb, by rw [e]; rfl⟩
theorem of_pinsAt {fp : List Addr} {h : Heap} {p : Addr × Obj} (hp : p ∈ pinsAt fp h) : p.1 ∈ fp ∧ h.get? p.1 = some p.2 := by
 obtain ⟨b, hb, e⟩ := List.mem_filterMap.mp hp
 cases q : h.get? b with
 | none => rw [q] at e; cases e
 | some o =>
  rw [q] at e
  have e' : (b, o) = p := Option.some.inj e
  subst e'
  exact ⟨hb, q⟩
theorem Inv.pinned {pins : List (Addr × Obj)} {σ : St} {H : Hp} {s : Shared} {fp : List Addr} (I : Inv X pins σ H s) (hf : ∀ b ∈ fp, FpOk X pins H b) (ho : ∀ b ∈ fp, ∃ o, s.heap.get? b = some o ∧ ∀ v, o.data ≠ .cell v) : Inv X (pins ++ pinsAt fp s.heap) σ H s :=
 I.pins_of fun p hp => (List.mem_append.mp hp).elim (fun z => I.pin p (List.mem_append_right _ z)) fun z => by
  obtain ⟨hb, e⟩ := of_pinsAt z
  obtain ⟨f0, f1, f2, _⟩ := hf p.1 hb
  obtain ⟨o, e', d⟩ := ho p.1 hb
  rw [e] at e'; cases e'
  exact ⟨e, f0, f1, f2, d⟩
theorem Inv.unpinned {pins pl : List (Addr × Obj)} {σ : St} {H : Hp} {s : Shared} (I : Inv X (pins ++ pl) σ H s) : Inv X pins σ H s := I.pins_of fun p hp => I.pin p (List.mem_append_right _ (List.mem_append_left _ hp))
theorem ps_for {iter : Expr} {body : List Stmt} {wi : TI} {g : TG} {tb : TS} {pos : Pos} (hp : PassesOwn (model X.prog X.w) X.A X.env X.xe) (hc : X.calm = true) (hi : PI X tg iter wi) (hg : PG X tg g) (hb : PSs X body tb)
  (hs : ∀ x, foldedSetIterable iter X.env x = pure x := by intro _; rfl) : PS X (.For tg iter body [] pos) (tFor wi g tb) := by
 intro pins s σ H D I h
 refine wpAny_For (thn (hi pins s σ H _ I h) fun v s1 h1 => thn h1 fun itv s2 h2 => ?_) hs
 obtain ⟨it, fp, tn, J, H2, e, I2, T, st2, f2, W, ⟨m0, w0⟩, turn⟩ := h2
 subst e
 have stat : ∀ {H' : Hp}, (∀ b ∈ fp, H' b = none) -> ∀ b ∈ fp, FpOk X pins H' b := fun hn b hb => ⟨hn b hb, (f2 b hb).2⟩
 refine codeAny_forLoop_any (fun n s' => ∃ i σ' H', Inv X pins σ' H' s' ∧ tn i s'.heap ∧ (∀ b ∈ fp, H' b = none) ∧ W i n σ' H') ?_ m0 ⟨0, σ, H2, I2, st2, fun b hb => (f2 b hb).1, w0⟩
 rintro n s3 ⟨i, σ3, H3, I3, st3, fr3, w3⟩
 rcases turn i n σ3 H3 w3 with ⟨stop, qn⟩ | ⟨go, N, hN, step⟩
 ·refine wpAny_passesOwn hp (thn (T.done X rfl rfl rfl hc i pins s3 σ3 H3 X.xe I3 (stat fr3) st3 stop) fun r s4 ⟨hr, I4⟩ => ?_)
  subst hr
  exact wpAny_execs_nil ⟨σ3, H3, I4, qn⟩
 ·refine wpAny_passesOwn hp (thn (T.item X rfl rfl rfl hc i pins s3 σ3 H3 X.xe I3 (stat fr3) st3 go) fun r s4 ⟨u, hr, h4⟩ => ?_)
  subst hr
  refine wpAny_passesOwn hp (thn h4 fun _ s5 ⟨x, H5, I5, r5, y5, st5, fr5⟩ => ?_)
  have I5' := I5.pinned (stat fr5) (T.obj _ _ st5)
  refine wpAny_passesOwn hp (thn (hg _ s5 σ3 H5 x u _ I5' r5 (step x H5 y5)) fun _ s6 ⟨σ6, H6, I6, q6⟩ => ?_)
  refine wpAny_passesOwn hp (thn (hb _ s6 σ6 H6 _ I6 q6) fun f s7 q7 => ?_)
  have again : ∀ {σ7 : St} {H7 : Hp}, Inv X (pins ++ pinsAt fp s5.heap) σ7 H7 s7 -> N σ7 H7 -> ∃ m, m < n ∧ ∃ i σ' H', Inv X pins σ' H' s7 ∧ tn i s7.heap ∧ (∀ b ∈ fp, H' b = none) ∧ W i m σ' H' := fun {σ7 H7} I7 n7 => by
   obtain ⟨m', hm, w7⟩ := hN σ7 H7 n7
   refine ⟨m', hm, i + 1, σ7, H7, I7.unpinned, T.keep _ _ _ st5 fun b hb o e => (I7.pin (b, o) (List.mem_append_right _ (List.mem_append_right _ (mem_pinsAt hb e)))).1, fun b hb => ?_, w7⟩
   obtain ⟨o, e, d⟩ := T.obj _ _ st5 b hb
   exact (I7.pin (b, o) (List.mem_append_right _ (List.mem_append_right _ (mem_pinsAt hb e)))).2.1
  cases f with
  | next => obtain ⟨σ7, H7, I7, n7⟩ := q7; exact again I7 n7
  | cont => obtain ⟨σ7, H7, I7, n7⟩ := q7; exact again I7 n7
  | brk => obtain ⟨σ7, H7, I7, q7⟩ := q7; exact ⟨σ7, H7, I7.unpinned, q7⟩
  | ret v => obtain ⟨x7, σ7, H7, I7, r7, q7⟩ := q7; exact ⟨x7, σ7, H7, I7.unpinned, r7, q7⟩
end
theorem for_list {K : PySem.W.Frag} {a : Addr} {xs : List V} {g : TG} {tb : TS} {D : Ends} {σ : St} {H : Hp} (Pv : Nat -> St -> Hp -> Prop) (h0 : Pv 0 σ H) (hl : ∀ i σ H, i <= xs.length -> Pv i σ H -> SqL K H a xs)
  (hs : ∀ i x σ H, xs[i]? = some x -> Pv i σ H -> g x σ H fun σ2 H2 => tb { D with nx := Pv (i + 1), ct := Pv (i + 1), bk := D.nx } σ2 H2) (hd : ∀ σ H, Pv xs.length σ H -> D.nx σ H) :
  ∃ W : Nat -> Nat -> St -> Hp -> Prop, (∃ m, W 0 m σ H) ∧ ∀ i m σ H, W i m σ H ->
   ((Itl K a).stop i H ∧ D.nx σ H) ∨ ((Itl K a).go i H ∧ ∃ N : St -> Hp -> Prop, (∀ σ' H', N σ' H' -> ∃ m', m' < m ∧ W (i + 1) m' σ' H') ∧ ∀ x H', (Itl K a).yld i H x H' -> g x σ H' fun σ2 H2 => tb { D with nx := N, ct := N, bk := D.nx } σ2 H2) := by
 refine ⟨fun i m σ H => m = xs.length - i ∧ i <= xs.length ∧ Pv i σ H, ⟨xs.length, by simp, Nat.zero_le _, h0⟩, ?_⟩
 rintro i m σ H ⟨rfl, hi, p⟩
 have q := hl i σ H hi p
 by_cases hlt : i < xs.length
 ·refine .inr ⟨⟨xs, xs[i], q, by simp [hlt]⟩, Pv (i + 1), fun σ' H' p' => ⟨xs.length - (i + 1), by omega, rfl, hlt, p'⟩, fun x H' y => ?_⟩
  obtain ⟨e, y⟩ := y
  subst e
  exact hs i x σ _ (y xs q) p
 ·have e : i = xs.length := by omega
  subst e
  exact .inl ⟨⟨xs, q, Nat.le_refl _⟩, hd σ H p⟩
theorem for_range {lo : Int} {n : Nat} {g : TG} {tb : TS} {D : Ends} {σ : St} {H : Hp} (Pv : Nat -> St -> Hp -> Prop) (h0 : Pv 0 σ H)
  (hs : ∀ i σ H, i < n -> Pv i σ H -> g (.int (lo + i)) σ H fun σ2 H2 => tb { D with nx := Pv (i + 1), ct := Pv (i + 1), bk := D.nx } σ2 H2) (hd : ∀ σ H, Pv n σ H -> D.nx σ H) :
  ∃ W : Nat -> Nat -> St -> Hp -> Prop, (∃ m, W 0 m σ H) ∧ ∀ i m σ H, W i m σ H ->
   ((Itr lo n).stop i H ∧ D.nx σ H) ∨ ((Itr lo n).go i H ∧ ∃ N : St -> Hp -> Prop, (∀ σ' H', N σ' H' -> ∃ m', m' < m ∧ W (i + 1) m' σ' H') ∧ ∀ x H', (Itr lo n).yld i H x H' -> g x σ H' fun σ2 H2 => tb { D with nx := N, ct := N, bk := D.nx } σ2 H2) := by
 refine ⟨fun i m σ H => m = n - i ∧ i <= n ∧ Pv i σ H, ⟨n, by simp, Nat.zero_le _, h0⟩, ?_⟩
 rintro i m σ H ⟨rfl, hi, p⟩
 by_cases hlt : i < n
 ·refine .inr ⟨hlt, Pv (i + 1), fun σ' H' p' => ⟨n - (i + 1), by omega, rfl, hlt, p'⟩, fun x H' y => ?_⟩
  obtain ⟨e, y⟩ := y
  subst e y
  exact hs i σ _ hlt p
 ·have e : i = n := by omega
  subst e
  exact .inl ⟨Nat.le_refl _, hd σ H p⟩
end L2
namespace L2
open PySem PySem.Spec PyProof.Rows
abbrev R2 := V -> V -> Hp -> VK -> Prop
def OpR (X : Cx) (f : Value -> Value -> Sem Value) (r : R2) : Prop :=
 ∀ (pins : List (Addr × Obj)) (s : Shared) (σ : St) (H : Hp) (x y : V) (v u : Value) (Q : VK), Inv X pins σ H s -> RelV x v -> RelV y u -> r x y H Q ->
  wpAny (model X.prog X.w) X.A (f v u) (EP X pins σ Q) X.xe s
def UnR (X : Cx) (f : Value -> Sem Value) (r : V -> Hp -> VK -> Prop) : Prop :=
 ∀ (pins : List (Addr × Obj)) (s : Shared) (σ : St) (H : Hp) (x : V) (v : Value) (Q : VK), Inv X pins σ H s -> RelV x v -> r x H Q ->
  wpAny (model X.prog X.w) X.A (f v) (EP X pins σ Q) X.xe s
def CallR (X : Cx) (f : Value) (r : List V -> Hp -> VK -> Prop) : Prop :=
 ∀ (pins : List (Addr × Obj)) (s : Shared) (σ : St) (H : Hp) (xs : List V) (us : List Value) (Q : VK), Inv X pins σ H s -> Vals xs us -> r xs H Q ->
  wpAny (model X.prog X.w) X.A (call f us) (EP X pins σ Q) X.xe s
def tOp (r : R2) (ta tb : TE) : TE := fun σ H Q => ta σ H fun x H1 => tb σ H1 fun y H2 => r x y H2 Q
def tUn (r : V -> Hp -> VK -> Prop) (ta : TE) : TE := fun σ H Q => ta σ H fun x H1 => r x H1 Q
def rI (C : Int -> Int -> Prop) (g : Int -> Int -> V) : R2 := fun x y H Q => ∃ i j, x = .int i ∧ y = .int j ∧ C i j ∧ Q (g i j) H
def rI0 (g : Int -> Int -> V) : R2 := fun x y H Q => ∃ i j, x = .int i ∧ y = .int j ∧ Q (g i j) H
def rU (g : Int -> V) : V -> Hp -> VK -> Prop := fun x H Q => ∃ i, x = .int i ∧ Q (g i) H
section
variable {X : Cx} {a b c : Expr} {ta tb tc : TE} {pos : Pos}
theorem binT (ha : PE X a ta) (hb : PE X b tb) {pins : List (Addr × Obj)} {s : Shared} {σ : St} {H : Hp} {R : V -> V -> Hp -> Prop} (I : Inv X pins σ H s)
  (h : ta σ H fun x H1 => tb σ H1 fun y H2 => R x y H2) {Q : Value -> Shared -> Prop} {f : Value -> Value -> Sem Value}
  (hf : ∀ v u s2 x y H2, Inv X pins σ H2 s2 -> RelV x v -> RelV y u -> R x y H2 -> wpAny (model X.prog X.w) X.A (f v u) Q X.xe s2) :
  wpAny (model X.prog X.w) X.A (eval a X.env) (fun v s₁ => wpAny (model X.prog X.w) X.A (eval b X.env) (fun u s₂ => wpAny (model X.prog X.w) X.A (f v u) Q X.xe s₂) X.xe s₁) X.xe s := by
 refine thn (ha pins s σ H _ I h) fun v s1 ⟨x, H1, I1, r1, q1⟩ => ?_
 refine thn (hb pins s1 σ H1 _ I1 q1) fun u s2 ⟨y, H2, I2, r2, q2⟩ => ?_
 exact hf v u s2 x y H2 I2 r1 r2 q2
theorem pe_op {op : Operator} {r : R2} (ho : OpR X (binaryOp op) r) (ha : PE X a ta) (hb : PE X b tb) : PE X (.BinOp a op b pos) (tOp r ta tb) := by
 intro pins s σ H Q I h
 exact wpAny_BinOp (binT ha hb I h fun v u s2 x y H2 I2 rx ry q => ho pins s2 σ H2 x y v u Q I2 rx ry q)
theorem pe_un {op : UnaryOp} {r : V -> Hp -> VK -> Prop} (ho : UnR X (unaryOp op) r) (ha : PE X a ta) : PE X (.UnaryOp op a pos) (tUn r ta) := by
 intro pins s σ H Q I h
 exact UnaryOp_ (thn (ha pins s σ H _ I h) fun v s1 ⟨x, H1, I1, r1, q1⟩ => ho pins s1 σ H1 x v Q I1 r1 q1)
theorem opI {f : Value -> Value -> Sem Value} {C : Int -> Int -> Prop} {g : Int -> Int -> Int}
  (rule : ∀ (i j : Int) (t u : Tok) (s : Shared) (Q : Value -> Shared -> Prop) (E : Value -> Shared -> Prop), C i j -> Q (.int (g i j) s.toks) { s with toks := s.toks + 1 } -> wpAny (model X.prog X.w) X.A (f (.int i t) (.int j u)) Q E s) :
  OpR X f (rI C fun i j => .int (g i j)) := by
 intro pins s σ H x y v u Q I rx ry h
 obtain ⟨i, j, rfl, rfl, hc, q⟩ := h
 obtain ⟨t, rfl⟩ := rx
 obtain ⟨t', rfl⟩ := ry
 exact rule i j t t' s _ _ hc ⟨.int (g i j), H, I.tok _, ⟨_, rfl⟩, q⟩
theorem opI0 {f : Value -> Value -> Sem Value} {g : Int -> Int -> Int}
  (rule : ∀ (i j : Int) (t u : Tok) (s : Shared) (Q : Value -> Shared -> Prop) (E : Value -> Shared -> Prop), Q (.int (g i j) s.toks) { s with toks := s.toks + 1 } -> wpAny (model X.prog X.w) X.A (f (.int i t) (.int j u)) Q E s) :
  OpR X f (rI0 fun i j => .int (g i j)) := by
 intro pins s σ H x y v u Q I rx ry h
 obtain ⟨i, j, rfl, rfl, q⟩ := h
 obtain ⟨t, rfl⟩ := rx
 obtain ⟨t', rfl⟩ := ry
 exact rule i j t t' s _ _ ⟨.int (g i j), H, I.tok _, ⟨_, rfl⟩, q⟩
theorem opB0 {f : Value -> Value -> Sem Value} {g : Int -> Int -> Bool}
  (rule : ∀ (i j : Int) (t u : Tok) (s : Shared) (Q : Value -> Shared -> Prop) (E : Value -> Shared -> Prop), Q (.bool (g i j)) s -> wpAny (model X.prog X.w) X.A (f (.int i t) (.int j u)) Q E s) :
  OpR X f (rI0 fun i j => .bl (g i j)) := by
 intro pins s σ H x y v u Q I rx ry h
 obtain ⟨i, j, rfl, rfl, q⟩ := h
 obtain ⟨t, rfl⟩ := rx
 obtain ⟨t', rfl⟩ := ry
 exact rule i j t t' s _ _ ⟨.bl (g i j), H, I, rfl, q⟩
def CDiv (i j : Int) : Prop := 0 < j ∧ j < 1073741824
def CPow (i j : Int) : Prop := 0 <= j ∧ j <= 1000000 ∧ i.natAbs < 2 ^ 64
def CMul (i j : Int) : Prop := (-(2 ^ 64) < i ∧ i < 2 ^ 64) ∨ (-(2 ^ 64) < j ∧ j < 2 ^ 64)
theorem CMul.ok {i j : Int} (h : CMul i j) : IntMulOk i j := by
 rcases h with ⟨h1, h2⟩ | ⟨h1, h2⟩
 ·exact .of_left (intBits_le_64 h1 h2)
 ·exact .of_right (intBits_le_64 h1 h2)
theorem op_add : OpR X (binaryOp .Add) (rI0 fun i j => .int (i + j)) := opI0 fun _ _ _ _ _ _ _ q => add_int q
theorem op_sub : OpR X (binaryOp .Sub) (rI0 fun i j => .int (i - j)) := opI0 fun _ _ _ _ _ _ _ q => sub_int q
theorem op_mul : OpR X (binaryOp .Mult) (rI CMul fun i j => .int (i * j)) := opI fun _ _ _ _ _ _ _ hc q => mul_int q hc.ok
theorem op_fdiv : OpR X (binaryOp .FloorDiv) (rI CDiv fun i j => .int (i / j)) := opI fun i j _ _ _ _ _ hc q => by
 have h1 : (0 : Int) < j := hc.1
 have h2 : j < 1073741824 := hc.2
 exact floordiv_int (by omega) (by rw [Int.fdiv_eq_ediv_of_nonneg i (by omega)]; exact q) (.inl (PyProof.noPylong_small (by omega)))
theorem op_mod : OpR X (binaryOp .Mod) (rI (fun _ j => 0 < j) fun i j => .int (i % j)) := opI fun i j _ _ _ _ _ hc q => by
 have h1 : (0 : Int) < j := hc
 exact mod_int' (by omega) (by rw [Int.fmod_eq_emod_of_nonneg i (by omega)]; exact q)
theorem op_pow : OpR X (binaryOp .Pow) (rI CPow fun i j => .int (i ^ j.toNat)) := opI fun _ _ _ _ _ _ _ hc q => pow_int_small hc.1 hc.2.1 hc.2.2 q
theorem unI {f : Value -> Sem Value} {g : Int -> Int}
  (rule : ∀ (i : Int) (t : Tok) (s : Shared) (Q : Value -> Shared -> Prop) (E : Value -> Shared -> Prop), Q (.int (g i) s.toks) { s with toks := s.toks + 1 } -> wpAny (model X.prog X.w) X.A (f (.int i t)) Q E s) :
  UnR X f (rU fun i => .int (g i)) := by
 intro pins s σ H x v Q I rx h
 obtain ⟨i, rfl, q⟩ := h
 obtain ⟨t, rfl⟩ := rx
 exact rule i t s _ _ ⟨.int (g i), H, I.tok _, ⟨_, rfl⟩, q⟩
theorem un_neg : UnR X (unaryOp .USub) (rU fun i => .int (-i)) := unI fun _ _ _ _ _ q => neg_int q
end
def scal : V -> V -> Bool
 | .non, .non => true | .non, .int _ => true | .int _, .non => true | .non, .bl _ => true | .bl _, .non => true | .non, .str _ => true | .str _, .non => true
 | .int _, .int _ => true | .bl _, .bl _ => true | .str _, .str _ => true | .byt _, .byt _ => true
 | .int _, .str _ => true | .str _, .int _ => true | .bl _, .str _ => true | .str _, .bl _ => true
 | _, _ => false
def rEq : R2 := fun x y H Q => scal x y = true ∧ Q (.bl (decide (x = y))) H
def rNe : R2 := fun x y H Q => scal x y = true ∧ Q (.bl (!decide (x = y))) H
theorem dec_int {i j : Int} : decide (V.int i = V.int j) = (i == j) := by
 rw [Bool.eq_iff_iff]
 simp
theorem dec_bl {i j : Bool} : decide (V.bl i = V.bl j) = (i == j) := by
 rw [Bool.eq_iff_iff]
 simp
theorem dec_str {i j : Str} : decide (V.str i = V.str j) = (i == j) := by
 rw [Bool.eq_iff_iff]
 simp
theorem dec_byt {i j : Array UInt8} : decide (V.byt i = V.byt j) = (i.toList == j.toList) := by
 rw [Bool.eq_iff_iff]
 cases i
 cases j
 simp
section
variable {X : Cx} {a b c : Expr} {ta tb tc : TE} {pos : Pos}
theorem fin_bl {pins : List (Addr × Obj)} {σ : St} {H : Hp} {s : Shared} {Q : VK} {k k' : Bool} (I : Inv X pins σ H s) (q : Q (.bl k) H) (e : k = k') : EP X pins σ Q (.bool k') s := by
 subst e
 exact ⟨.bl k, H, I, rfl, q⟩
theorem op_eq : OpR X (compareOp .Eq) rEq := by
 intro pins s σ H x y v u Q I rx ry h
 obtain ⟨hs, q⟩ := h
 cases x with
 | non =>
  cases rx
  cases y with
  | non => cases ry; exact PySem.EqNone.eq_none_none (fin_bl I q (by simp))
  | bl j => cases ry; exact PySem.EqNone.eq_none_bool (fin_bl I q (by simp))
  | int j => obtain ⟨t', rfl⟩ := ry; exact PySem.EqNone.eq_none_int (fin_bl I q (by simp))
  | str j => obtain ⟨t', rfl⟩ := ry; exact PySem.EqNone.eq_none_str (fin_bl I q (by simp))
  | _ => exact absurd (show false = true from hs) Bool.false_ne_true
 | bl i =>
  cases rx
  cases y with
  | non => cases ry; exact PySem.EqNone.eq_bool_none (fin_bl I q (by simp))
  | bl j => cases ry; exact eq_bool (fin_bl I q dec_bl)
  | str j => obtain ⟨t', rfl⟩ := ry; exact PySem.EqMixed.eq_bool_str (fin_bl I q (by simp))
  | _ => exact absurd (show false = true from hs) Bool.false_ne_true
 | int i =>
  obtain ⟨t, rfl⟩ := rx
  cases y with
  | non => cases ry; exact PySem.EqNone.eq_int_none (fin_bl I q (by simp))
  | int j => obtain ⟨t', rfl⟩ := ry; exact eq_int (fin_bl I q dec_int)
  | str j => obtain ⟨t', rfl⟩ := ry; exact PySem.EqMixed.eq_int_str (fin_bl I q (by simp))
  | _ => exact absurd (show false = true from hs) Bool.false_ne_true
 | str i =>
  obtain ⟨t, rfl⟩ := rx
  cases y with
  | non => cases ry; exact PySem.EqNone.eq_str_none (fin_bl I q (by simp))
  | bl j => cases ry; exact PySem.EqMixed.eq_str_bool (fin_bl I q (by simp))
  | int j => obtain ⟨t', rfl⟩ := ry; exact PySem.EqMixed.eq_str_int (fin_bl I q (by simp))
  | str j => obtain ⟨t', rfl⟩ := ry; exact eq_str (fin_bl I q dec_str)
  | _ => exact absurd (show false = true from hs) Bool.false_ne_true
 | byt i =>
  obtain ⟨t, rfl⟩ := rx
  cases y with
  | byt j => obtain ⟨t', rfl⟩ := ry; exact PySem.W.eq_bytes (fin_bl I q dec_byt)
  | _ => exact absurd (show false = true from hs) Bool.false_ne_true
 | _ => cases y <;> exact absurd (show false = true from hs) Bool.false_ne_true
theorem op_ne : OpR X (compareOp .NotEq) rNe := by
 intro pins s σ H x y v u Q I rx ry h
 obtain ⟨hs, q⟩ := h
 cases x with
 | non =>
  cases rx
  cases y with
  | non => cases ry; exact PySem.EqNone.ne_none_none (fin_bl I q (by simp))
  | bl j => cases ry; exact PySem.EqNone.ne_none_bool (fin_bl I q (by simp))
  | int j => obtain ⟨t', rfl⟩ := ry; exact PySem.EqNone.ne_none_int (fin_bl I q (by simp))
  | str j => obtain ⟨t', rfl⟩ := ry; exact PySem.EqNone.ne_none_str (fin_bl I q (by simp))
  | _ => exact absurd (show false = true from hs) Bool.false_ne_true
 | bl i =>
  cases rx
  cases y with
  | non => cases ry; exact PySem.EqNone.ne_bool_none (fin_bl I q (by simp))
  | bl j => cases ry; exact ne_bool (fin_bl I q (congrArg not dec_bl))
  | str j => obtain ⟨t', rfl⟩ := ry; exact PySem.EqMixed.ne_bool_str (fin_bl I q (by simp))
  | _ => exact absurd (show false = true from hs) Bool.false_ne_true
 | int i =>
  obtain ⟨t, rfl⟩ := rx
  cases y with
  | non => cases ry; exact PySem.EqNone.ne_int_none (fin_bl I q (by simp))
  | int j => obtain ⟨t', rfl⟩ := ry; exact ne_int (fin_bl I q (congrArg not dec_int))
  | str j => obtain ⟨t', rfl⟩ := ry; exact PySem.EqMixed.ne_int_str (fin_bl I q (by simp))
  | _ => exact absurd (show false = true from hs) Bool.false_ne_true
 | str i =>
  obtain ⟨t, rfl⟩ := rx
  cases y with
  | non => cases ry; exact PySem.EqNone.ne_str_none (fin_bl I q (by simp))
  | bl j => cases ry; exact PySem.EqMixed.ne_str_bool (fin_bl I q (by simp))
  | int j => obtain ⟨t', rfl⟩ := ry; exact PySem.EqMixed.ne_str_int (fin_bl I q (by simp))
  | str j => obtain ⟨t', rfl⟩ := ry; exact ne_str (fin_bl I q (congrArg not dec_str))
  | _ => exact absurd (show false = true from hs) Bool.false_ne_true
 | byt i =>
  obtain ⟨t, rfl⟩ := rx
  cases y with
  | byt j => obtain ⟨t', rfl⟩ := ry; exact PySem.W.ne_bytes (fin_bl I q (congrArg not dec_byt))
  | _ => exact absurd (show false = true from hs) Bool.false_ne_true
 | _ => cases y <;> exact absurd (show false = true from hs) Bool.false_ne_true
theorem op_lt : OpR X (compareOp .Lt) (rI0 fun i j => .bl (decide (i < j))) := opB0 fun _ _ _ _ _ _ _ q => lt_int q
theorem op_le : OpR X (compareOp .LtE) (rI0 fun i j => .bl (decide (i <= j))) := opB0 fun _ _ _ _ _ _ _ q => le_int q
theorem op_gt : OpR X (compareOp .Gt) (rI0 fun i j => .bl (decide (j < i))) := opB0 fun _ _ _ _ _ _ _ q => gt_int q
theorem op_isN : OpR X (compareOp .Is) (fun x y H Q => y = .non ∧ Q (.bl (decide (x = .non))) H) := by
 intro pins s σ H x y v u Q I rx ry h
 obtain ⟨rfl, q⟩ := h
 cases ry
 refine is_none_gen (fin_bl I q ?_)
 cases x <;> first
  |(cases rx; rfl)
  |(obtain ⟨t, rfl⟩ := rx; rfl)
theorem nomark (b : Expr) {op : CmpOp} (h : op ≠ .In := by decide) (h2 : op ≠ .NotIn := by decide) : behindInMarks op b = false := by
 have e1 : (op == CmpOp.In) = false := by cases op <;> first | rfl | exact absurd rfl h
 have e2 : (op == CmpOp.NotIn) = false := by cases op <;> first | rfl | exact absurd rfl h2
 cases b <;> simp [behindInMarks, e1, e2]
theorem pe_cmpR {op : CmpOp} {r : R2} (ho : OpR X (compareOp op) r) (ha : PE X a ta) (hb : PE X b tb) (hm : behindInMarks op b = false) : PE X (.Compare a [op] [b] pos) (tOp r ta tb) := by
 intro pins s σ H Q I h
 exact wpAny_Compare1 (binT ha hb I h fun v u s2 x y H2 I2 rx ry q => ho pins s2 σ H2 x y v u Q I2 rx ry q) hm
def tTest (t : TE) : TT := fun σ H Q => t σ H fun x H' => ∃ k, x = .bl k ∧ Q k H'
theorem pt_cmpR {op : CmpOp} {r : R2} (ho : OpR X (compareOp op) r) (ha : PE X a ta) (hb : PE X b tb) (hm : behindInMarks op b = false) : PT X (.Compare a [op] [b] pos) (tTest (tOp r ta tb)) := by
 intro pins s σ H Q I h
 refine wpAny_isTrue_Compare1 (thn (ha pins s σ H _ I h) fun v s1 ⟨x, H1, I1, r1, q1⟩ => thn (hb pins s1 σ H1 _ I1 q1) fun u s2 ⟨y, H2, I2, r2, q2⟩ =>
  thn (ho pins s2 σ H2 x y v u _ I2 r1 r2 q2) fun c s3 ⟨z, H3, I3, r3, k, e, q3⟩ => ?_) hm
 subst e
 cases r3
 exact wpAny_truthy_bool ⟨H3, I3, q3⟩
def tChain (r r' : R2) (ta tb tc : TE) : TE := fun σ H Q => ta σ H fun x H1 => tb σ H1 fun y H2 => r x y H2 fun z H3 => ∃ k, z = .bl k ∧
 (if k = true then tc σ H3 fun w' H4 => r' y w' H4 Q else Q (.bl false) H3)
theorem pe_chain {op op' : CmpOp} {r r' : R2} (ho : OpR X (compareOp op) r) (ho' : OpR X (compareOp op') r') (ha : PE X a ta) (hb : PE X b tb) (hc : PE X c tc)
  (hm : lastMarks [op, op'] [b, c] = false := by with_unfolding_all rfl) : PE X (.Compare a [op, op'] [b, c] pos) (tChain r r' ta tb tc) := by
 intro pins s σ H Q I h
 refine Compare_chain (thn (ha pins s σ H _ I h) fun v s1 ⟨x, H1, I1, r1, q1⟩ => chain_link (thn (hb pins s1 σ H1 _ I1 q1) fun u s2 ⟨y, H2, I2, r2, q2⟩ =>
  thn (ho pins s2 σ H2 x y v u _ I2 r1 r2 q2) fun d s3 ⟨z, H3, I3, r3, k, e, q3⟩ => ?_)) hm
 subst e
 cases r3
 refine wpAny_truthy_bool ?_
 cases k with
 | false => exact ite_ff ⟨.bl false, H3, I3, rfl, q3⟩
 | true => exact ite_tt (chain_last (thn (hc pins s3 σ H3 _ I3 q3) fun w' s4 ⟨z', H4, I4, r4, q4⟩ => ho' pins s4 σ H4 y z' u w' Q I4 r2 r4 q4))
theorem line63 : (sizeLine : Nat) < 2 ^ 63 := by rw [sizeLine_eq]; decide
theorem vals1 {x : V} {us : List Value} (r : Vals [x] us) : ∃ u, us = [u] ∧ RelV x u := by
 cases r with
 | cons r1 r2 => cases r2; exact ⟨_, rfl, r1⟩
theorem call_abs : CallR X (.builtin "abs") (fun xs H Q => ∃ i, xs = [.int i] ∧ Q (.int (if i < 0 then -i else i)) H) := by
 intro pins s σ H xs us Q I r h
 obtain ⟨i, rfl, q⟩ := h
 obtain ⟨u, rfl, t, rfl⟩ := vals1 r
 exact call_abs_int fun u tk => ⟨.int (if i < 0 then -i else i), H, I.tok _, ⟨_, rfl⟩, q⟩
end
end L2
namespace L2
open PySem PySem.Spec PyProof.Rows
structure ObjM (h : Heap) (x dx C : Addr) (mA : Str -> Option Value) : Prop where
 obj : h.get? x = some (PySem.W.instObj C dx)
 ns : h.Ns1 dx mA
 ne : dx ≠ x
theorem lookIn_ns {h : Heap} {dx : Addr} {mA : Str -> Option Value} (n : h.Ns1 dx mA) : ∃ od, h.get? dx = some od ∧ ∀ name, PySem.W.lookIn name od = some (mA name) := by
 obtain ⟨o, es, ep, ho, hd, hk, _, hm⟩ := n
 refine ⟨o, ho, fun name => ?_⟩
 have e := hm name
 unfold nsFind findBy at e
 rw [← Array.find?_toList] at e
 unfold PySem.W.lookIn
 rw [hd]
 dsimp only
 split
 ·rename_i y q
  rw [q] at e
  exact congrArg some e
 ·rename_i q
  rw [q] at e
  have a : es.toList.any (·.refKey) = false := by
   rw [List.any_eq_false]
   intro y hy
   obtain ⟨z, t, hkey⟩ := hk y (Array.mem_toList_iff.mp hy)
   simp [DictEntry.refKey, hkey]
  have a' : ¬ es.toList.any (·.refKey) = true := by rw [a]; exact Bool.false_ne_true
  rw [if_neg a']
  exact congrArg some e
theorem ObjM.look {h : Heap} {x dx C : Addr} {mA : Str -> Option Value} (I : ObjM h x dx C mA) : ∃ od, PySem.W.InstAt h x (PySem.W.instObj C dx) C (some od) ∧ ∀ name, PySem.W.lookIn name od = some (mA name) :=
 let ⟨od, ho, hl⟩ := lookIn_ns I.ns
 ⟨od, ⟨I.obj, rfl, rfl, ho⟩, hl⟩
section
variable {prog : Program} {w : World} {A : Around} {E : Value -> Shared -> Prop} {s : Shared} {K : PySem.W.Frag} {x dx C f : Addr} {mA : Str -> Option Value} {name : Str} {v : Value}
theorem get_map {expr : Bool} {Q : Value -> Shared -> Prop} (X : K.In s.heap) (I : ObjM s.heap x dx C mA) (hg : PySem.W.plainGet K C name = true) (hh : PySem.W.hasDictIn K C = true)
  (ha : PySem.W.findIn K (.ref C) name = some none) (hv : mA name = some v) (hv' : PySem.W.handedIn v = true) (h : Q v { s with toks := s.toks + 1 }) :
  wpAny (model prog w) A (getAttr (.ref x) name expr) Q E s := by
 obtain ⟨od, J, hl⟩ := I.look
 exact PySem.W.get_value X J (PySem.W.plainGet_of hg).1 (PySem.W.findObj_own hh ha rfl (by rw [hl, hv])) hv' h
theorem get_meth {pl : Sem Bool} {Q : Value × List Value -> Shared -> Prop} (X : K.In s.heap) (I : ObjM s.heap x dx C mA) (hg : PySem.W.plainGet K C name = true)
  (hf : PySem.W.findIn K (.ref C) name = some (some (.ref f))) (ht : PySem.W.isFn K (.ref f) = true) (hv : mA name = none) (h : Q (.ref f, [.ref x]) s) :
  wpAny (model prog w) A (getMethod (.ref x) name pl) Q E s := by
 obtain ⟨od, J, hl⟩ := I.look
 exact PySem.W.method_fn X J (PySem.W.plainGet_of hg).1 (PySem.W.plainGet_of hg).2 hf (beq_iff_eq.mp ht) (by show (PySem.W.lookIn name od).map (·.isSome) = some false; rw [hl, hv]; rfl) h
theorem set_map {ns : List Str} {Q : Unit -> Shared -> Prop} (X : K.In s.heap) (I : ObjM s.heap x dx C mA)
  (hs : PySem.W.findIn K (.ref C) "__setattr__" = some (some (.builtin "object.__setattr__"))) (hp : PySem.W.plainOver K C = true) (ht : PySem.W.takerIn K C name = some none) (hh : PySem.W.hasDictIn K C = true)
  (hw : PySem.Within mA ns) (hsz : ns.length <= sizeLine)
  (h : ∀ h', ObjM h' x dx C (fun y => if y = name then some v else mA y) -> Heap.SameBut dx s.heap h' -> Q () { s with heap := h', toks := s.toks + 2 }) :
  wpAny (model prog w) A (setAttr (.ref x) name v) Q E s := by
 obtain ⟨od, J, hl⟩ := I.look
 refine PySem.W.set_plain X J hs (PySem.W.osa_open (s := { s with toks := s.toks + 1 }) (r := none) X J hp ht fun b => ?_)
 obtain ⟨cd, hc, hd'⟩ := PySem.W.any_some hh
 have hx : s.heap.get? x = some ⟨.ref C, some dx, .plain, #[]⟩ := I.obj
 refine wpAny_bind (wpAny_pure (wpAny_bind (wpAny_bind (wpAny_loadPart hx (wpAny_bind (PySem.W.Looks.here (s := { s with toks := s.toks + 1 }) (PySem.W.looks_clsIn X hc) ?_))))))
 rw [hd']
 refine wpAny_pure (a := some dx) (wpAny_bind (wpAny_pure (wpAny_bind ?_)))
 refine wpAny_nsSet1 (s := { s with toks := s.toks + 1 }) I.ns fun h' hn2 hs2 => ?_
 obtain ⟨oD, esD, epD, hoD, hdD, hcD⟩ := hn2.count (PySem.Within.cons name v hw)
 refine wpAny_bind (wpAny_lookBehind hoD (by rw [hdD]; exact pastItsLine_dict (Nat.le_trans hcD (by rw [List.length_cons]; omega))) ?_)
 exact wpAny_pure (h _ ⟨(hs2.2 _ (Ne.symm I.ne)).trans I.obj, hn2, I.ne⟩ hs2)
theorem make_map {R : Result -> Shared -> Prop} {vs : List Value} {kw : List (Str × Value)} (X : K.In s.heap) (hm : PySem.W.makesIn K C = true)
  (hi : PySem.W.findIn K (.ref C) "__init__" = some (some (.ref f))) (hf : PySem.W.typeIn K (.ref f) = some (.type "function"))
  (h : codeAny (model prog w) (A.under (.builtin "type.__call__" ⟨.ref C :: vs, kw⟩)) (.call (.ref f) ⟨.ref (s.heap.objs.size + 1) :: vs, kw⟩) (PySem.W.InitBack (s.heap.objs.size + 1) R)
   { s with heap := (s.heap.push PySem.W.emptyDict).push (PySem.W.instObj C s.heap.objs.size) }) :
  codeAny (model prog w) A (.call (.ref C) ⟨vs, kw⟩) R s := by
 obtain ⟨hh, g, d, t, os⟩ := s
 exact PySem.W.make_core (PySem.W.makes_of X hm) (PySem.W.looks_findIn X hi) (fun self => PySem.W.bind_fn X self hf) (.inl rfl) h
end
def putF (f : Str) (v : V) : List (Str × V) -> List (Str × V)
 | [] => [(f, v)]
 |(g, x) :: r => if g = f then (g, v) :: r else (g, x) :: putF f v r
theorem lookup_putF (f g : Str) (v : V) : ∀ fs : List (Str × V), (putF f v fs).lookup g = if g = f then some v else fs.lookup g
 | [] => by
  show List.lookup g [(f, v)] = _
  by_cases h : g = f
  ·have hb : (g == f) = true := beq_iff_eq.mpr h
   simp only [List.lookup, hb, if_pos h]
  ·have hb : (g == f) = false := beq_eq_false_iff_ne.mpr h
   simp only [List.lookup, hb, if_neg h]
 |(k, x) :: r => by
  have ih := lookup_putF f g v r
  rw [show putF f v ((k, x) :: r) = (if k = f then (k, v) :: r else (k, x) :: putF f v r) from rfl]
  by_cases hk : k = f
  ·rw [if_pos hk]
   by_cases h : g = k
   ·have hb : (g == k) = true := beq_iff_eq.mpr h
    simp only [List.lookup, hb, if_pos (h.trans hk)]
   ·have hb : (g == k) = false := beq_eq_false_iff_ne.mpr h
    simp only [List.lookup, hb, if_neg (fun e : g = f => h (e.trans hk.symm))]
  ·rw [if_neg hk]
   by_cases h : g = k
   ·have hb : (g == k) = true := beq_iff_eq.mpr h
    simp only [List.lookup, hb, if_neg (fun e : g = f => hk (h.symm.trans e))]
   ·have hb : (g == k) = false := beq_eq_false_iff_ne.mpr h
    simp only [List.lookup, hb]
    exact ih
theorem keys_putF (f : Str) (v : V) : ∀ fs : List (Str × V), f ∈ (putF f v fs).map (·.1) ∧ ∀ g, g ∈ fs.map (·.1) -> g ∈ (putF f v fs).map (·.1)
 | [] => ⟨by simp [putF], fun g h => by simp at h⟩
 |(k, x) :: r => by
  obtain ⟨i1, i2⟩ := keys_putF f v r
  rw [show putF f v ((k, x) :: r) = (if k = f then (k, v) :: r else (k, x) :: putF f v r) from rfl]
  by_cases hk : k = f
  ·rw [if_pos hk]
   subst hk
   exact ⟨by simp, fun g h => by simpa using h⟩
  ·rw [if_neg hk]
   refine ⟨?_, fun g h => ?_⟩
   ·rw [List.map_cons]
    exact List.mem_cons_of_mem _ i1
   ·rw [List.map_cons] at h ⊢
    rcases List.mem_cons.mp h with e | e
    ·exact List.mem_cons.mpr (.inl e)
    ·exact List.mem_cons_of_mem _ (i2 g e)
theorem length_putF (f : Str) (v : V) : ∀ fs : List (Str × V), (putF f v fs).length <= fs.length + 1
 | [] => by simp [putF]
 |(k, x) :: r => by
  have ih := length_putF f v r
  rw [show putF f v ((k, x) :: r) = (if k = f then (k, v) :: r else (k, x) :: putF f v r) from rfl]
  by_cases hk : k = f
  ·rw [if_pos hk, List.length_cons, List.length_cons]; omega
  ·rw [if_neg hk, List.length_cons, List.length_cons]; omega
theorem RelO.some_of {v : V} {o : Option Value} (r : RelO (some v) o) : ∃ u, o = some u ∧ RelV v u := by
 cases o with
 | none => exact (show False from r).elim
 | some u => exact ⟨u, rfl, r⟩
theorem RelO.none_of {o : Option Value} (r : RelO none o) : o = none := by
 cases o with
 | none => rfl
 | some u => exact (show False from r).elim
theorem handed_of {v : V} {u : Value} (r : RelV v u) : PySem.W.handedIn u = true := by
 cases v with
 | non => cases (show u = Value.none from r); rfl
 | bl b => cases (show u = Value.bool b from r); rfl
 | int i => obtain ⟨t, e⟩ := (show ∃ t, u = Value.int i t from r); cases e; rfl
 | str x => obtain ⟨t, e⟩ := (show ∃ t, u = Value.str x t from r); cases e; rfl
 | byt b => obtain ⟨t, e⟩ := (show ∃ t, u = Value.bytes b t from r); cases e; rfl
 | flt b => obtain ⟨t, e⟩ := (show ∃ t, u = Value.float b t from r); cases e; rfl
 | ref a => cases (show u = Value.ref a from r); rfl
 | ty n => cases (show u = Value.type n from r); rfl
section
variable {P : Program} {w : World} {H H' : Hp} {h h' : Heap} {a C dx : Addr} {fs fs' : List (Str × V)}
theorem ins_get (hok : HOk P w H h) (e : H a = some (.ins C dx fs)) : ∃ mA, ObjM h a dx C mA ∧ (∀ f, RelO (fs.lookup f) (mA f)) ∧ PySem.Within mA (fs.map (·.1)) ∧ fs.length <= 1000 ∧ H dx = some (.own a) := by
 obtain ⟨d, z, ne, ob, mA, n, r, q⟩ := (show ObjOk P w H h a (.ins C dx fs) from hok a _ e)
 exact ⟨mA, ⟨ob, n, ne⟩, r, q, z, d⟩
end
structure Cls (K : PySem.W.Frag) (C : Addr) : Prop where
 pg : PySem.W.plainGet K C Str.empty = true
 hd : PySem.W.hasDictIn K C = true
 po : PySem.W.plainOver K C = true
 sa : PySem.W.findIn K (.ref C) "__setattr__" = some (some (.builtin "object.__setattr__"))
theorem Cls.get {K : PySem.W.Frag} {C : Addr} (c : Cls K C) (f : Str) : PySem.W.plainGet K C f = true := c.pg
def NoAttr (K : PySem.W.Frag) (C : Addr) (f : Str) : Prop := PySem.W.findIn K (.ref C) f = some none
theorem NoAttr.taker {K : PySem.W.Frag} {C : Addr} {f : Str} (n : NoAttr K C f) : PySem.W.takerIn K C f = some none := by
 unfold PySem.W.takerIn
 rw [show PySem.W.findIn K (.ref C) f = some none from n]
 rfl
structure Meth (K : PySem.W.Frag) (C : Addr) (m : Str) (f : Addr) : Prop where
 at_ : PySem.W.findIn K (.ref C) m = some (some (.ref f))
 fn : PySem.W.isFn K (.ref f) = true
 kp : PySem.W.keepIn K (.ref f) = true
section
variable {X : Cx} {pins : List (Addr × Obj)} {σ : St} {H : Hp} {s : Shared} {a C dx : Addr} {fs : List (Str × V)} {f : Str} {v : V} {A : Around} {E : Value -> Shared -> Prop}
theorem getattr_ok {b : Bool} {Q : Value -> Shared -> Prop} (I : Inv X pins σ H s) (e : H a = some (.ins C dx fs)) (c : Cls X.K C) (n : NoAttr X.K C f) (l : fs.lookup f = some v)
  (h : ∀ u s', Inv X pins σ H s' -> RelV v u -> Q u s') : wpAny (model X.prog X.w) A (getAttr (.ref a) f b) Q E s := by
 obtain ⟨mA, O, r, _, _, _⟩ := ins_get I.hok e
 obtain ⟨u, hu, ru⟩ := RelO.some_of (v := v) (o := mA f) (by rw [← l]; exact r f)
 exact get_map I.kIn O (c.get f) c.hd n hu (handed_of ru) (h u _ (I.tok _) ru)
theorem getmeth_ok {m : Str} {g : Addr} {pl : Sem Bool} {Q : Value × List Value -> Shared -> Prop} (I : Inv X pins σ H s) (e : H a = some (.ins C dx fs)) (c : Cls X.K C) (k : Meth X.K C m g) (l : fs.lookup m = none)
  (h : Q (.ref g, [.ref a]) s) : wpAny (model X.prog X.w) A (getMethod (.ref a) m pl) Q E s := by
 obtain ⟨mA, O, r, _, _, _⟩ := ins_get I.hok e
 have hn : mA m = none := RelO.none_of (by rw [← l]; exact r m)
 exact get_meth I.kIn O (c.get m) k.at_ k.fn hn h
theorem setattr_ok {y : V} {u : Value} {Q : Unit -> Shared -> Prop} (I : Inv X pins σ H s) (e : H a = some (.ins C dx fs)) (c : Cls X.K C) (n : NoAttr X.K C f) (hl : fs.length < 1000) (ry : RelV y u)
  (h : ∀ s', Inv X pins σ (upd H a (.ins C dx (putF f y fs))) s' -> Q () s') : wpAny (model X.prog X.w) A (setAttr (.ref a) f u) Q E s := by
 obtain ⟨mA, O, r, wi, _, ho⟩ := ins_get I.hok e
 have hz : (fs.map (·.1)).length <= sizeLine := by rw [List.length_map, sizeLine_eq]; omega
 refine set_map I.kIn O c.sa c.po n.taker c.hd wi hz fun h' O' sb => h _ ?_
 have hd : ∃ o, h'.get? dx = some o := let ⟨o, _, _, e', _⟩ := O'.ns; ⟨o, e'⟩
 refine I.write (x := a) (e := dx) (by rw [e]; exact True.intro) (.inr ho) (fun b q hb z => (sb.2 b hb).trans z) hd ?_
 refine ⟨by rw [upd_ne O.ne]; exact ho, ?_, O.ne, O'.obj, _, O'.ns, fun g => ?_, fun g hg => ?_⟩
 ·have := length_putF f y fs; omega
 ·show RelO ((putF f y fs).lookup g) (if g = f then some u else mA g)
  rw [lookup_putF]
  by_cases q : g = f
  ·rw [if_pos q, if_pos q]; exact ry
  ·rw [if_neg q, if_neg q]; exact r g
 ·by_cases q : g = f
  ·rw [q]; exact (keys_putF f y fs).1
  ·refine (keys_putF f y fs).2 g (wi g fun z => hg ?_)
   show (if g = f then some u else mA g) = none
   rw [if_neg q]; exact z
theorem Inv.made (I : Inv X pins σ H s) : Inv X pins σ (upd (upd H s.heap.objs.size (.own (s.heap.objs.size + 1))) (s.heap.objs.size + 1) (.ins C s.heap.objs.size []))
  { s with heap := (s.heap.push PySem.W.emptyDict).push (PySem.W.instObj C s.heap.objs.size) } := by
 have e1 : (s.heap.push PySem.W.emptyDict).get? s.heap.objs.size = some PySem.W.emptyDict := Heap.get?_push_size s.heap rfl
 have e2 : ((s.heap.push PySem.W.emptyDict).push (PySem.W.instObj C s.heap.objs.size)).get? (s.heap.objs.size + 1) = some (PySem.W.instObj C s.heap.objs.size) := by
  have := Heap.get?_push_size (s.heap.push PySem.W.emptyDict) (o := PySem.W.instObj C s.heap.objs.size) rfl
  rwa [Heap.size_push] at this
 have e3 : (s.heap.push PySem.W.emptyDict).Ns s.heap.objs.size (fun _ => none) := ⟨PySem.W.emptyDict, #[], _, e1, rfl, (fun e he => absurd he (by simp)), fun _ => rfl⟩
 have I1 := I.laid (a := s.heap.objs.size) (o := .own (s.heap.objs.size + 1)) (h' := s.heap.push PySem.W.emptyDict) (t' := s.toks) (fun b u q => Heap.get?_push_of_some _ q) (Nat.le_refl _) ⟨_, e1⟩
 refine I1.laid (a := s.heap.objs.size + 1) (o := .ins C s.heap.objs.size []) (t' := s.toks) (fun b u q => Heap.get?_push_of_some _ q) (Nat.le_of_eq (Heap.size_push _ _)) ?_
 have ne : s.heap.objs.size ≠ s.heap.objs.size + 1 := Nat.ne_of_lt (Nat.lt_succ_self _)
 refine ⟨by rw [upd_ne ne, upd_same], Nat.zero_le _, ne, e2, fun _ => none, (Heap.Ns1.of_empty e3).at fun o q => Heap.get?_push_of_some _ q, fun _ => True.intro, fun y hy => absurd rfl hy⟩
theorem attr_of {prog : Program} {w : World} {env : Env} {e : Expr} {f : Str} {pos : Pos} {s : Shared} {Q : Value -> Shared -> Prop} (hb : attributeBase e f env (eval e env) = eval e env)
  (h : wpAny (model prog w) A (eval e env) (fun o s₁ => wpAny (model prog w) A (getAttr o f true) Q E s₁) E s) : wpAny (model prog w) A (eval (.Attribute e f pos) env) Q E s :=
 Attribute_any_ h (by rw [arm_eval_Attribute, hb])
end
def tFld (K : PySem.W.Frag) (ta : TE) (f : Str) : TE := fun σ H Q => ta σ H fun x H1 => ∃ a C dx fs v, x = .ref a ∧ H1 a = some (.ins C dx fs) ∧ Cls K C ∧ NoAttr K C f ∧ fs.lookup f = some v ∧ Q v H1
def sFld (K : PySem.W.Frag) (ta tv : TE) (f : Str) : TS := fun D σ H => tv σ H fun y H1 => ta σ H1 fun x H2 => ∃ a C dx fs, x = .ref a ∧ H2 a = some (.ins C dx fs) ∧ Cls K C ∧ NoAttr K C f ∧ fs.length < 1000 ∧
 D.nx σ (upd H2 a (.ins C dx (putF f y fs)))
section
variable {X : Cx} {o e value : Expr} {f : Str} {pos pos' tpos : Pos} {ta tv : TE}
theorem pe_fld (he : PE X e ta) (hb : attributeBase e f X.env (eval e X.env) = eval e X.env) : PE X (.Attribute e f pos) (tFld X.K ta f) := by
 intro pins s σ H Q I h
 refine attr_of hb (thn (he pins s σ H _ I h) fun u s1 ⟨x, H1, I1, rx, a, C, dx, fs, v, ex, ea, c, n, l, q⟩ => ?_)
 subst ex
 obtain rfl : u = Value.ref a := rx
 exact getattr_ok I1 ea c n l fun u' s2 I2 ru => ⟨v, H1, I2, ru, q⟩
theorem ps_fld (ha : PE X o ta) (hv : PE X value tv) (hs : swapsWith value (some (.Attribute o f pos')) pos.line X.env = pure false) : PS X (.Assign [.Attribute o f pos'] value pos) (sFld X.K ta tv f) := by
 intro pins s σ H D I h
 refine plainObj_wpAny_Assign_Attribute (thn (hv pins s σ H _ I h) fun u s1 ⟨y, H1, I1, ry, q⟩ => thn (ha pins s1 σ H1 _ I1 q) fun ov s2 ⟨x, H2, I2, rx, a, C, dx, fs, ex, ea, c, n, l, q2⟩ => ?_) hs
 subst ex
 obtain rfl : ov = Value.ref a := rx
 exact setattr_ok I2 ea c n l ry fun s3 I3 => ⟨σ, _, I3, q2⟩
theorem methcall_of {pl : Sem Bool} {m : Str} {apos : Pos} {args : List Expr} {pins : List (Addr × Obj)} {s : Shared} {σ : St} {H : Hp} {Q : Value -> Shared -> Prop} {te : TE} (he : PE X e te) (I : Inv X pins σ H s)
  (h : te σ H fun x H1 => ∃ a C dx fs g, x = .ref a ∧ H1 a = some (.ins C dx fs) ∧ Cls X.K C ∧ Meth X.K C m g ∧ fs.lookup m = none ∧
   ∀ s1, Inv X pins σ H1 s1 -> wpAny (model X.prog X.w) X.A (callWith pos (.ref g) [.ref a] (backTo pos (starEach args X.env)) (backToKw pos (keywordEach [] X.env))) Q X.xe s1)
  (ht : eval (.Call (.Attribute e m apos) args [] pos) X.env = (do
   let ov ← eval e X.env
   standAt apos.atName
   let (f, first) ← holding [ov] (getMethod ov m pl)
   callWith pos f first (backTo pos (starEach args X.env)) (backToKw pos (keywordEach [] X.env)))) :
  wpAny (model X.prog X.w) X.A (eval (.Call (.Attribute e m apos) args [] pos) X.env) Q X.xe s := by
 refine PySem.W.methodCall_KW (pl := pl) (thn (he pins s σ H _ I h) fun u s1 ⟨x, H1, I1, rx, a, C, dx, fs, g, ex, ea, c, k, l, q⟩ => ?_) ht
 subst ex
 obtain rfl : u = Value.ref a := rx
 exact getmeth_ok I1 ea c k l (q s1 I1)
end
section
variable {X : Cx} {pins : List (Addr × Obj)} {σ : St} {H : Hp} {s : Shared} {A : Around} {E : Value -> Shared -> Prop} {Q : Value -> Shared -> Prop} {c : Value} {b : Bool}
end
end L2
namespace L2
open PySem PySem.Spec PyProof.Rows
structure Room (k : Nat) (A : Around) : Prop where
 hd : A.handled = none
 dp : A.depth + 3 * k + 5 < recursionLimit
 un : A.units + 16 * k + 200 < cLine
theorem Room.mono {j k : Nat} {A : Around} (r : Room k A) (h : j <= k) : Room j A := ⟨r.hd, by have := r.dp; omega, by have := r.un; omega⟩
theorem Room.deeper {k : Nat} {A : Around} (r : Room (k + 1) A) (env : Env) : Room k (A.deeper env) :=
 ⟨r.hd, by have := r.dp; show A.depth + 1 + 3 * k + 5 < _; omega, by have := r.un; show A.units + 3 + 16 * k + 200 < _; omega⟩
theorem make_depth {A : Around} {C : Addr} {us : List Value} {kw : List (Str × Value)} : (A.under (.builtin "type.__call__" ⟨.ref C :: us, kw⟩)).depth = A.depth + 1 := by
 first | rfl | simp [Around.under, Code.weight, Code.isCreation, Code.isGuard, Code.isCaller, Code.frames, Code.isFrame, guardIds]
theorem make_units {A : Around} {C : Addr} {us : List Value} {kw : List (Str × Value)} : (A.under (.builtin "type.__call__" ⟨.ref C :: us, kw⟩)).units = A.units + 1 := by
 first | rfl | simp [Around.under, Code.cUnits, Code.frames, Code.isFrame]
theorem Room.make {k : Nat} {A : Around} (r : Room (k + 1) A) (C : Addr) (us : List Value) (kw : List (Str × Value)) : Room k (A.under (.builtin "type.__call__" ⟨.ref C :: us, kw⟩)) :=
 ⟨r.hd, by have := r.dp; rw [make_depth]; omega, by have := r.un; rw [make_units]; omega⟩
theorem Room.depth {k : Nat} {A : Around} (r : Room k A) : A.depth < recursionLimit := by have := r.dp; omega
theorem Room.units {k : Nat} {A : Around} (r : Room k A) : A.units + 64 < cLine := by have := r.un; omega
def tNil : TA := fun _ H Q => Q [] H
def tCons (ta : TE) (tr : TA) : TA := fun σ H Q => ta σ H fun x H1 => tr σ H1 fun xs H2 => Q (x :: xs) H2
section
variable {X : Cx} {e : Expr} {es : List Expr} {te : TE} {t : TA} {pos : Pos}
theorem pa_nil : PA X [] tNil := fun _ _ _ _ H Q I h => Calls.spliced_nil ⟨[], H, I, .nil, h⟩
theorem pa_cons (ha : PE X e te) (hr : PA X es t) (hs : starEach (e :: es) X.env = (false, eval e X.env) :: starEach es X.env := by rfl) : PA X (e :: es) (tCons te t) := by
 intro pos pins s σ H Q I h
 rw [hs]
 show wpAny _ _ (spliced ((false, eval e X.env) :: backTo pos (starEach es X.env))) _ _ s
 refine Calls.spliced_cons (thn (ha pins s σ H _ I h) fun u s1 ⟨x, H1, I1, r1, q1⟩ => ?_)
 exact thn (hr pos pins s1 σ H1 _ I1 q1) fun us s2 ⟨xs, H2, I2, r2, q2⟩ => ⟨x :: xs, H2, I2, .cons r1 r2, q2⟩
def tTup (t : TA) : TE := fun σ H Q => t σ H fun xs H1 => xs.length <= sizeLine ∧ ∀ p, H1 p = none -> Q (.ref p) (upd H1 p (.tup xs))
def tLst (t : TA) : TE := fun σ H Q => t σ H fun xs H1 => xs.length <= sizeLine ∧ ∀ p, H1 p = none -> Q (.ref p) (upd H1 p (.lst xs))
theorem pe_tup {x1} (h : PA X es t) : PE X (.Tuple es x1 pos) (tTup t) := by
 intro pins s σ H Q I hq
 refine wpAny_Tuple_spliced (thn (h pos pins s σ H _ I hq) fun us s1 ⟨xs, H1, I1, r, z, q⟩ => ⟨by rw [← r.length]; exact z, ?_⟩)
 have hf : H1 s1.heap.objs.size = none := I1.hok.fresh (Nat.le_refl _)
 refine ⟨.ref s1.heap.objs.size, upd H1 s1.heap.objs.size (.tup xs), I1.laid (t' := s1.toks) (fun b u e => Heap.get?_push_of_some _ e) (Nat.le_refl _) ?_, rfl, q _ hf⟩
 exact ⟨z, us, r, ⟨_, Heap.get?_push_size _ rfl, rfl, _, rfl⟩⟩
theorem pe_lst (h : PA X es t) : PE X (.List es pos) (tLst t) := by
 intro pins s σ H Q I hq
 refine wpAny_List_spliced (thn (h pos pins s σ H _ I hq) fun us s1 ⟨xs, H1, I1, r, z, q⟩ => ⟨by rw [← r.length]; exact z, ?_⟩)
 have hf : H1 s1.heap.objs.size = none := I1.hok.fresh (Nat.le_refl _)
 refine ⟨.ref s1.heap.objs.size, upd H1 s1.heap.objs.size (.lst xs), I1.laid (t' := s1.toks) (fun b u e => Heap.get?_push_of_some _ e) (Nat.le_refl _) ?_, rfl, q _ hf⟩
 exact ⟨z, us, 0, r, Heap.get?_push_size _ rfl⟩
end
abbrev Sp := List V -> Hp -> VK -> XK -> Prop
abbrev CXT := List Env -> Hp -> Shared -> XK -> Value -> Shared -> Prop
structure Env0 (P : Program) (w : World) (K : PySem.W.Frag) (mg : Str -> Option Value) (base : Heap) (A : Around) (outer : List Env) (s : Shared) (H : Hp) : Prop where
 frames : A.frames = some outer
 mod : Mod K mg base
 bs : ∀ b o, base.get? b = some o -> s.heap.get? b = some o ∧ H b = none
 bsz : base.objs.size <= s.heap.objs.size
 funs : s.heap.FunFrames base outer
 frf : ∀ b ∈ frs outer, H b = none
 hok : HOk P w H s.heap
 bare : AllBare s.gens
def CE (outer : List Env) (P : Program) (w : World) (H : Hp) (s : Shared) (Q : VK) (u : Value) (s' : Shared) : Prop :=
 ∃ v H', s'.os = s.os ∧ AllBare s'.gens ∧ Un (frs outer) [] H H' s.heap s'.heap ∧ HOk P w H' s'.heap ∧ RelV v u ∧ Q v H'
def CR (CX : CXT) (outer : List Env) (P : Program) (w : World) (H : Hp) (s : Shared) (Q : VK) (E : XK) (r : Result) (s' : Shared) : Prop :=
 match r with
 | .ok (.ret u) => CE outer P w H s Q u s'
 | .ok _ => False
 | .error e => CX outer H s E e s'
structure FnOk (P : Program) (w : World) (K : PySem.W.Frag) (mg : Str -> Option Value) (base : Heap) (CX : CXT) (k : Nat) (f : Addr) (fd : FuncData) (ps : List Str) (sp : Sp) : Prop where
 len : ∀ vs H Q E, sp vs H Q E -> vs.length = ps.length
 run : ∀ (A : Around) (outer : List Env) (s : Shared) (H : Hp) (args : Args) (us : List Value) (vs : List V) (Q : VK) (E : XK), Room k A -> Env0 P w K mg base A outer s H -> BindsTo s fd args (ps.zip us) -> Vals vs us -> sp vs H Q E ->
  codeAny (model P w) A (.call (.ref f) args) (CR CX outer P w H s Q E) s
theorem FnOk.mono {P : Program} {w : World} {K : PySem.W.Frag} {mg : Str -> Option Value} {base : Heap} {CX : CXT} {j k : Nat} {f : Addr} {fd : FuncData} {ps : List Str} {sp : Sp} (F : FnOk P w K mg base CX j f fd ps sp) (h : j <= k) :
  FnOk P w K mg base CX k f fd ps sp := ⟨F.len, fun A outer s H args us vs Q E hr => F.run A outer s H args us vs Q E (hr.mono h)⟩
theorem FnOk.imp {P : Program} {w : World} {K : PySem.W.Frag} {mg : Str -> Option Value} {base : Heap} {CX : CXT} {k : Nat} {f : Addr} {fd : FuncData} {ps : List Str} {sp sp' : Sp} (F : FnOk P w K mg base CX k f fd ps sp)
  (h : ∀ vs H Q E, sp' vs H Q E -> sp vs H Q E) : FnOk P w K mg base CX k f fd ps sp' :=
 ⟨fun vs H Q E q => F.len vs H Q E (h _ _ _ _ q), fun A outer s H args us vs Q E hr he hb hv hs => F.run A outer s H args us vs Q E hr he hb hv (h _ _ _ _ hs)⟩
theorem Env0.make {P : Program} {w : World} {K : PySem.W.Frag} {mg : Str -> Option Value} {base : Heap} {A : Around} {outer : List Env} {s : Shared} {H : Hp} (e : Env0 P w K mg base A outer s H) (C : Addr) (us : List Value) (kw : List (Str × Value)) :
  Env0 P w K mg base (A.under (.builtin "type.__call__" ⟨.ref C :: us, kw⟩)) outer s H := ⟨by first | exact e.frames | (simpa [Around.under, Code.envs, Code.isFrame, pushEnvs] using e.frames), e.mod, e.bs, e.bsz, e.funs, e.frf, e.hok, e.bare⟩
section
variable {X : Cx} {pins : List (Addr × Obj)} {σ : St} {H : Hp} {s s' : Shared}
theorem Inv.env0 (I : Inv X pins σ H s) : Env0 X.prog X.w X.K X.mg X.base X.A X.stack s H :=
 ⟨I.ok.frames, I.ok.mod, I.bs, Nat.le_trans I.ok.bsz I.sz, I.stack, I.stkFree, I.hok, I.bare⟩
theorem Inv.after {Q : VK} {u : Value} (I : Inv X pins σ H s) (h : CE X.stack X.prog X.w H s Q u s') : EP X pins σ Q u s' := by
 obtain ⟨v, H', os, bare, un, hok, r, q⟩ := h
 obtain ⟨hh, g, d, t, os'⟩ := s'
 obtain rfl : os' = s.os := os
 exact ⟨v, H', I.call (h' := hh) (g' := g) (d' := d) (t' := t) (ch := []) un hok bare (fun b z => absurd z (by simp)), r, q⟩
end
def tCall (sp : Sp) (dvs : List V) (E : XK) (t : TA) : TE := fun σ H Q => t σ H fun vs H1 => sp (vs ++ dvs) H1 Q E
def tMeth (C : Addr) (m : Str) (sp : Sp) (dvs : List V) (E : XK) (ta : TE) (t : TA) : TE := fun σ H Q => ta σ H fun x H1 => ∃ a dx fs, x = .ref a ∧ H1 a = some (.ins C dx fs) ∧ fs.lookup m = none ∧
 t σ H1 fun vs H2 => sp (x :: (vs ++ dvs)) H2 Q E
def tMake (C : Addr) (sp : Sp) (dvs : List V) (E : XK) (t : TA) : TE := fun σ H Q => t σ H fun vs H1 => ∀ x dx, H1 x = none -> H1 dx = none -> dx ≠ x ->
 sp (.ref x :: (vs ++ dvs)) (upd (upd H1 dx (.own x)) x (.ins C dx [])) (fun v H2 => v = .non ∧ Q (.ref x) H2) E
def Binds (K : PySem.W.Frag) (fd : FuncData) (ps : List Str) (ds : List Value) : Prop :=
 ∀ (s : Shared) (us : List Value), K.In s.heap -> (us ++ ds).length = ps.length -> BindsTo s fd ⟨us, []⟩ (ps.zip (us ++ ds))
theorem Binds.all {K : PySem.W.Frag} {fd : FuncData} {ps : List Str} (h : ∀ us : List Value, us.length = ps.length -> bindArgs fd ⟨us, []⟩ = pure (ps.zip us)) : Binds K fd ps [] := fun s us _ hl => by
 rw [List.append_nil] at hl ⊢
 exact .of_eq (h us hl)
def Passes (CX : CXT) (X : Cx) (E : XK) : Prop := ∀ (pins : List (Addr × Obj)) (σ : St) (H : Hp) (s : Shared) (e : Value) (s' : Shared), Inv X pins σ H s -> CX X.stack H s E e s' -> X.xe e s'
section
variable {X : Cx} {CX : CXT} {k : Nat} {f C : Addr} {fd : FuncData} {ps : List Str} {sp : Sp} {dvs : List V} {ds : List Value} {E : XK} {x m : Str} {p pos apos : Pos} {e o : Expr} {es : List Expr} {ta : TE} {t : TA}
theorem run_fn {pins : List (Addr × Obj)} {σ : St} {H : Hp} {s : Shared} {Q : VK} {us : List Value} {vs : List V} (F : FnOk X.prog X.w X.K X.mg X.base CX k f fd ps sp) (hr : Room k X.A) (hb : Binds X.K fd ps ds) (hd : Vals dvs ds) (hx : Passes CX X E)
  (I : Inv X pins σ H s) (r : Vals vs us) (h : sp (vs ++ dvs) H Q E) : wpAny (model X.prog X.w) X.A (call (.ref f) us) (EP X pins σ Q) X.xe s := by
 have r2 : Vals (vs ++ dvs) (us ++ ds) := r.append hd
 have hl : (us ++ ds).length = ps.length := by rw [← r2.length]; exact F.len _ _ _ _ h
 refine wpAny_call (codeAny_mono (F.run X.A X.stack s H ⟨us, []⟩ (us ++ ds) (vs ++ dvs) Q E hr I.env0 (hb s us I.kIn hl) r2 h) fun r s' hq => ?_)
 cases r with
 | error e => exact hx pins σ H s e s' I hq
 | ok fl =>
  cases fl with
  | ret u => exact I.after hq
  | next => exact False.elim hq
  | brk => exact False.elim hq
  | cont => exact False.elim hq
theorem pe_call (F : FnOk X.prog X.w X.K X.mg X.base CX k f fd ps sp) (hr : Room k X.A) (hg : Gl X x) (hm : X.mg x = some (.ref f)) (hk : PySem.W.keepIn X.K (.ref f) = true) (hb : Binds X.K fd ps ds) (hd : Vals dvs ds) (hx : Passes CX X E)
  (ha : PA X (e :: es) t) (hdb : (x == ("__debug__" : Str)) = false := by decide) (he : starEach (e :: es) X.env = (false, eval e X.env) :: starEach es X.env := by rfl) (hpl : (backTo pos (starEach es X.env)).any (·.1) = false := by rfl) :
  PE X (.Call (.Name x p) (e :: es) [] pos) (tCall sp dvs E t) := by
 intro pins s σ H Q I h
 refine wpAny_Call_Name_kw (ld_glob I hg hm ?_ hdb)
 refine PySem.W.callWith_K (h₀ := X.base) I.ok.mod.kin hk (thn (ha pos pins s σ H _ I h) fun us s1 ⟨vs, H1, I1, r, q⟩ => ⟨I1.kIn, ?_⟩) he hpl
 exact run_fn F hr hb hd hx I1 r q
theorem pe_meth0 {pl : Sem Bool} (he : PE X o ta) (c : Cls X.K C) (hm : Meth X.K C m f) (F : FnOk X.prog X.w X.K X.mg X.base CX k f fd ps sp) (hr : Room k X.A) (hb : Binds X.K fd ps ds) (hd : Vals dvs ds) (hx : Passes CX X E)
  (ht : eval (.Call (.Attribute o m apos) [] [] pos) X.env = (do
   let ov ← eval o X.env
   standAt apos.atName
   let (f, first) ← holding [ov] (getMethod ov m pl)
   callWith pos f first (backTo pos (starEach [] X.env)) (backToKw pos (keywordEach [] X.env))) := by rfl) :
  PE X (.Call (.Attribute o m apos) [] [] pos) (tMeth C m sp dvs E ta tNil) := by
 intro pins s σ H Q I h
 refine PySem.W.methodCall_KW (pl := pl) (thn (he pins s σ H _ I h) fun u s1 ⟨x, H1, I1, rx, a, dx, fs, ex, ea, l, q⟩ => ?_) ht
 subst ex
 obtain rfl : u = Value.ref a := rx
 refine getmeth_ok I1 ea c hm l ?_
 exact PySem.W.callWith_K0 (first := [.ref a]) I1.kIn hm.kp (run_fn (us := [.ref a]) (vs := [.ref a]) F hr hb hd hx I1 (.cons rfl .nil) q)
structure Mk (K : PySem.W.Frag) (C f : Addr) : Prop where
 makes : PySem.W.makesIn K C = true
 init : PySem.W.findIn K (.ref C) "__init__" = some (some (.ref f))
 fn : PySem.W.isFn K (.ref f) = true
 kp : PySem.W.keepIn K (.ref C) = true
theorem run_make {pins : List (Addr × Obj)} {σ : St} {H : Hp} {s : Shared} {Q : VK} {us : List Value} {vs : List V} (M : Mk X.K C f) (F : FnOk X.prog X.w X.K X.mg X.base CX k f fd ps sp) (hr : Room (k + 1) X.A) (hb : Binds X.K fd ps ds) (hd : Vals dvs ds)
  (hx : Passes CX X E) (I : Inv X pins σ H s) (r : Vals vs us)
  (h : ∀ x dx, H x = none -> H dx = none -> dx ≠ x -> sp (.ref x :: (vs ++ dvs)) (upd (upd H dx (.own x)) x (.ins C dx [])) (fun v H2 => v = .non ∧ Q (.ref x) H2) E) :
  wpAny (model X.prog X.w) X.A (call (.ref C) us) (EP X pins σ Q) X.xe s := by
 have hq := h (s.heap.objs.size + 1) s.heap.objs.size (I.hok.fresh (Nat.le_succ _)) (I.hok.fresh (Nat.le_refl _)) (Nat.ne_of_lt (Nat.lt_succ_self _))
 have I2 := Inv.made (C := C) I
 have r2 : Vals (V.ref (s.heap.objs.size + 1) :: (vs ++ dvs)) (Value.ref (s.heap.objs.size + 1) :: (us ++ ds)) := .cons rfl (r.append hd)
 have hl : (Value.ref (s.heap.objs.size + 1) :: us ++ ds).length = ps.length := by
  have e := r2.length
  rw [F.len _ _ _ _ hq] at e
  exact e.symm
 refine wpAny_call (make_map (f := f) I.kIn M.makes M.init (beq_iff_eq.mp M.fn) (codeAny_mono (F.run _ X.stack _ _ ⟨Value.ref (s.heap.objs.size + 1) :: us, []⟩ (Value.ref (s.heap.objs.size + 1) :: (us ++ ds)) _ _ E (hr.make C us [])
  (I2.env0.make C us []) (hb _ (Value.ref (s.heap.objs.size + 1) :: us) I2.kIn hl) r2 hq) fun r s' hq' => ?_))
 cases r with
 | error e => exact hx pins σ _ _ e s' I2 hq'
 | ok fl =>
  cases fl with
  | ret u =>
   obtain ⟨v, H', I3, rv, ev, q3⟩ := I2.after hq'
   subst ev
   exact ⟨rv, ⟨V.ref (s.heap.objs.size + 1), H', I3, rfl, q3⟩⟩
  | next => exact False.elim hq'
  | brk => exact False.elim hq'
  | cont => exact False.elim hq'
theorem pe_make (M : Mk X.K C f) (F : FnOk X.prog X.w X.K X.mg X.base CX k f fd ps sp) (hr : Room (k + 1) X.A) (hg : Gl X x) (hm : X.mg x = some (.ref C)) (hb : Binds X.K fd ps ds) (hd : Vals dvs ds) (hx : Passes CX X E)
  (ha : PA X (e :: es) t) (hdb : (x == ("__debug__" : Str)) = false := by decide) (he : starEach (e :: es) X.env = (false, eval e X.env) :: starEach es X.env := by rfl) (hpl : (backTo pos (starEach es X.env)).any (·.1) = false := by rfl) :
  PE X (.Call (.Name x p) (e :: es) [] pos) (tMake C sp dvs E t) := by
 intro pins s σ H Q I h
 refine wpAny_Call_Name_kw (ld_glob I hg hm ?_ hdb)
 refine PySem.W.callWith_K (h₀ := X.base) I.ok.mod.kin M.kp (thn (ha pos pins s σ H _ I h) fun us s1 ⟨vs, H1, I1, r, q⟩ => ⟨I1.kIn, ?_⟩) he hpl
 exact run_make M F hr hb hd hx I1 r q
end
section
variable {X : Cx} {CX : CXT} {k : Nat} {f C : Addr} {fd : FuncData} {ps ks : List Str} {sp : Sp} {E : XK} {x m : Str} {p pos apos kpos : Pos} {e o : Expr} {es : List Expr} {kws : List Keyword} {te ta : TE} {t tk : TA} {nm : Option Str}
variable {g : List Value -> List Value -> List Value} {gV : List V -> List V -> List V}
end
structure FnScope (N P : List Str) (sc : Scope) : Prop where
 kind : sc.kind = .function
 co : sc.isCoroutine = false
 gen : sc.isGenerator = false
 nd : N.Nodup
 pre : N.take P.length = P
 par : ∀ x ∈ P, sc.names.lookup x = some .local ∨ sc.names.lookup x = some .cell
 nofree : ∀ y ∈ sc.names, y.2 ≠ .free
theorem bindL_out {kindOf : Str -> Option NameKind} {x : Str} : ∀ {binds : List (Str × Value)} {m : Str -> Option Value}, (∀ v, (x, v) ∉ binds) -> bindL kindOf binds m x = m x
 | [], _, _ => rfl
 |(n, v) :: r, m, h => by
  unfold bindL
  rw [bindL_out fun w hw => h w (List.mem_cons_of_mem _ hw)]
  split
  ·have : x ≠ n := by rintro rfl; exact h v List.mem_cons_self
   simp [this]
  ·rfl
theorem bindC_out {kindOf : Str -> Option NameKind} {x : Str} : ∀ {binds : List (Str × Value)} {m : Str -> Option Value}, (∀ v, (x, v) ∉ binds) -> bindC kindOf binds m x = m x
 | [], _, _ => rfl
 |(n, v) :: r, m, h => by
  unfold bindC
  rw [bindC_out fun w hw => h w (List.mem_cons_of_mem _ hw)]
  split
  ·rfl
  ·have : x ≠ n := by rintro rfl; exact h v List.mem_cons_self
   simp [this]
theorem bindL_get {kindOf : Str -> Option NameKind} {x : Str} {v : Value} : ∀ {P : List Str} {vs : List Value} {i : Nat} {m : Str -> Option Value}, P.Nodup -> P[i]? = some x -> vs[i]? = some v -> kindOf x = some .local ->
  bindL kindOf (P.zip vs) m x = some v
 | [], _, _, _, _, h, _, _ => by simp at h
 | _ :: _, [], _, _, _, _, h, _ => by simp at h
 | p :: P, w :: vs, 0, m, nd, h1, h2, hk => by
  simp at h1 h2; subst h1; subst h2
  show bindL kindOf ((p, w) :: P.zip vs) m p = _
  unfold bindL
  rw [bindL_out fun v hv => (List.nodup_cons.mp nd).1 (List.of_mem_zip hv).1, if_pos hk]
  simp
 | p :: P, w :: vs, i + 1, m, nd, h1, h2, hk => by
  show bindL kindOf ((p, w) :: P.zip vs) m x = _
  unfold bindL
  exact bindL_get (i := i) (List.nodup_cons.mp nd).2 (by simpa using h1) (by simpa using h2) hk
theorem bindC_get {kindOf : Str -> Option NameKind} {x : Str} {v : Value} : ∀ {P : List Str} {vs : List Value} {i : Nat} {m : Str -> Option Value}, P.Nodup -> P[i]? = some x -> vs[i]? = some v -> kindOf x ≠ some .local ->
  bindC kindOf (P.zip vs) m x = some v
 | [], _, _, _, _, h, _, _ => by simp at h
 | _ :: _, [], _, _, _, _, h, _ => by simp at h
 | p :: P, w :: vs, 0, m, nd, h1, h2, hk => by
  simp at h1 h2; subst h1; subst h2
  show bindC kindOf ((p, w) :: P.zip vs) m p = _
  unfold bindC
  rw [bindC_out fun v hv => (List.nodup_cons.mp nd).1 (List.of_mem_zip hv).1, if_neg hk]
  simp
 | p :: P, w :: vs, i + 1, m, nd, h1, h2, hk => by
  show bindC kindOf ((p, w) :: P.zip vs) m x = _
  unfold bindC
  exact bindC_get (i := i) (List.nodup_cons.mp nd).2 (by simpa using h1) (by simpa using h2) hk
def start (N : List Str) (vs : List V) : St := vs.map some ++ List.replicate (N.length - vs.length) none
def cxOf (CX : CXT) (P : Program) (w : World) (K : PySem.W.Frag) (mg : Str -> Option Value) (base : Heap) (N : List Str) (qual : Str) (scope : Scope) (f : Addr) (cd : Value) (A : Around) (outer : List Env) (s : Shared) (H : Hp) (E : XK) : Cx where
 prog := P
 w := w
 K := K
 mg := mg
 base := base
 A := A.deeper (envOfC qual scope s.heap.objs.size f cd)
 N := N
 s₀ := s
 H₀ := H
 env := envOfC qual scope s.heap.objs.size f cd
 outer := outer
 stack := envOfC qual scope s.heap.objs.size f cd :: outer
 ex := []
 calm := true
 fn := fun _ => true
 pn := []
 xe := fun e s' => wpAny (model P w) (A.deeper (envOfC qual scope s.heap.objs.size f cd)) (leaving (envOfC qual scope s.heap.objs.size f cd) e) (fun _ s'' => CX outer H s E e s'') (fun e' s'' => CX outer H s E e' s'') s'
theorem cell_has {sc : Scope} {n : Nat} {x : Str} (h : sc.names.lookup x = some .cell) : ∃ c, (cellsFrom n sc.names []).lookup x = some c := by
 have q := PySem.W.cellsFrom_some sc.names n [] (.inl h)
 exact Option.isSome_iff_exists.mp q
theorem inv_start {CX : CXT} {P : Program} {w : World} {K : PySem.W.Frag} {mg : Str -> Option Value} {base : Heap} {N ps : List Str} {qual : Str} {scope : Scope} {f : Addr} {cd : Value} {A : Around} {outer : List Env} {s s1 : Shared} {H : Hp} {E : XK} {us : List Value} {vs : List V}
  (S : FnScope N ps scope) (hd : A.handled = none) (e0 : Env0 P w K mg base A outer s H) (hl : vs.length = ps.length) (r : Vals vs us)
  (x : InCallC s s.heap.objs.size (bindL (envOfC qual scope s.heap.objs.size f cd).kindOf (ps.zip us) fun _ => none) (cellsFrom (s.heap.objs.size + 1) scope.names []) (bindC (envOfC qual scope s.heap.objs.size f cd).kindOf (ps.zip us) fun _ => none) s1) :
  Inv (cxOf CX P w K mg base N qual scope f cd A outer s H E) [] (start N vs) H s1 := by
 have hpl : ps.length <= N.length := by have := congrArg List.length S.pre; rw [List.length_take] at this; omega
 obtain ⟨h1, tk, rfl, hk⟩ := x.done
 have noA : ∀ b : Addr, b ∉ (cxOf CX P w K mg base N qual scope f cd A outer s H E).ex := fun b z => absurd (show b ∈ ([] : List Addr) from z) (by simp)
 refine ⟨⟨e0.mod, S.kind, rfl, rfl, Nat.le_refl _, fun y z c h1 h2 => ?_, fun y hy => ?_, fun y c _ h => ?_, fun _ => hd, Around.frames_deeper e0.frames, .inr ⟨rfl, rfl⟩, fun b z => absurd z (noA b), e0.bs, e0.bsz, fun b _ _ => noA b, fun b z => absurd z (noA b), e0.funs, e0.frf⟩,
  rfl, e0.bare, Un.kept hk, ⟨_, x.toInCall.ns, fun i y v h1 h2 h3 => ?_⟩, fun y c h => ⟨_, x.cell y c h⟩, e0.hok.fresh (Nat.le_refl _), fun y c h => ?_, fun p hp => absurd (show p ∈ ([] : List (Addr × Obj)) from hp) (by simp), e0.hok.kept hk, ?_⟩
 ·exact name_of_addr x.apart (PySem.mem_of_lookup h1) (PySem.mem_of_lookup h2)
 ·have hy : scope.names.lookup y = some .cell ∨ scope.names.lookup y = some .free := hy
  rcases hy with hy | hy
  ·exact cell_has hy
  ·exact absurd rfl (S.nofree _ (PySem.mem_of_lookup hy))
 ·exact Nat.le_of_lt (x.above y c (PySem.mem_of_lookup h))
 ·have hi : i < vs.length := by
   unfold start at h2
   by_cases hi : i < vs.length
   ·exact hi
   ·rw [List.getElem?_append_right (by simpa using hi)] at h2
    rw [List.getElem?_replicate] at h2
    split at h2 <;> cases h2
  have ha : vs[i]? = some v := by
   unfold start at h2
   rw [List.getElem?_append_left (by simpa using hi), List.getElem?_map] at h2
   cases e : vs[i]? with
   | none => rw [e] at h2; cases h2
   | some a => rw [e] at h2; cases h2; rfl
  obtain ⟨u, hu, rv⟩ := r.get ha
  have hp : ps[i]? = some y := by
   rw [← S.pre, List.getElem?_take_of_lt (by omega)]; exact h1
  have ndP : ps.Nodup := by rw [← S.pre]; exact S.nd.sublist (List.take_sublist _ _)
  refine ⟨u, rv, ?_⟩
  rcases S.par y (List.mem_of_getElem? hp) with k | k
  ·exact .inl ⟨k, bindL_get ndP hp hu k⟩
  ·obtain ⟨c, e⟩ := cell_has (n := s.heap.objs.size + 1) k
   refine .inr ⟨.inl k, c, e, ?_⟩
   have q := x.cell y c e
   rw [bindC_get ndP hp hu (by show scope.names.lookup y ≠ _; rw [k]; decide)] at q
   exact q
 ·exact e0.hok.fresh (Nat.le_of_lt (x.above y c (PySem.mem_of_lookup h)))
 ·unfold start
  show _ = N.length
  rw [List.length_append, List.length_map, List.length_replicate]
  omega
theorem fn_of {CX : CXT} {P : Program} {w : World} {K : PySem.W.Frag} {mg : Str -> Option Value} {base : Heap} {k : Nat} {f : Addr} {name qual : Str} {params : Arguments} {body : List Stmt} {scope : Scope} {dV kV doc pm cdv ct oc : Value} {an od : Option Addr}
  {osl : Array (Option Value)} {N ps : List Str} {sp : Sp} (lk : K.lookup f = some ⟨oc, od, .func (PySem.W.fnOf name qual params body scope dV kV doc pm an cdv ct), osl⟩) (hcd : PySem.W.codeIn K cdv qual = true) (S : FnScope N ps scope)
  (len : ∀ vs H Q E, sp vs H Q E -> vs.length = ps.length)
  (hbody : ∀ (A : Around) (outer : List Env) (s : Shared) (H : Hp) (vs : List V) (Q : VK) (E : XK), Room k (A.deeper (envOfC qual scope s.heap.objs.size f cdv)) -> sp vs H Q E ->
   ∃ t, PSs (cxOf CX P w K mg base N qual scope f cdv A outer s H E) body t ∧ t { nx := fun _ H' => Q .non H', rt := Q } (start N vs) H) :
  FnOk P w K mg base CX (k + 1) f (PySem.W.fnOf name qual params body scope dV kV doc pm an cdv ct) ps sp := by
 refine ⟨len, fun A outer s H args us vs Q E hr e0 hb r hsp => ?_⟩
 have hl := len _ _ _ _ hsp
 have KX : K.In s.heap := e0.mod.kin.keeps fun b o e => (e0.bs b o e).1
 have lim : s.heap.NoLimit := e0.mod.nolimit.keeps fun b o e => (e0.bs b o e).1
 have hkind : ∀ y ∈ ps.zip us, scope.names.lookup y.1 = some .local ∨ (scope.names.lookup y.1 = some .cell ∧ ((cellsFrom (s.heap.objs.size + 1) scope.names []).lookup y.1).isSome = true) := fun ⟨n, v⟩ hy => by
  rcases S.par n (List.of_mem_zip hy).1 with q | q
  ·exact .inl q
  ·exact .inr ⟨q, PySem.W.cellsFrom_some _ _ _ (.inl q)⟩
 refine codeAny_call_function hr.depth (KX _ _ lk) rfl S.co S.gen rfl (PySem.W.codeRec_of KX hcd) (hb _ _ _ _ ?_)
 refine wpAny_newFunctionEnv_cells S.kind hkind fun env he s1 x => ?_
 subst he
 refine ⟨lim.keeps x.toInCall.keep, codeAny_func ?_⟩
 obtain ⟨t, ht, hq⟩ := hbody A outer s H vs Q E (hr.deeper _) hsp
 have I : Inv (cxOf CX P w K mg base N qual scope f cdv A outer s H E) [] (start N vs) H s1 := inv_start S hr.hd e0 hl r x
 refine wpAny_mono (ht [] s1 (start N vs) H _ I hq) (fun fl s' hs => ?_) fun e s' hs => hs
 have fin : ∀ {σ' : St} {H' : Hp} {v : V} {u : Value}, Inv (cxOf CX P w K mg base N qual scope f cdv A outer s H E) [] σ' H' s' -> RelV v u -> Q v H' -> CE outer P w H s Q u s' :=
  fun {σ' H' v u} J rv q => ⟨v, H', J.os, J.bare, J.base, J.hok, rv, q⟩
 cases fl with
 | ret u =>
  obtain ⟨v, σ', H', J, rv, q⟩ := hs
  exact fin J rv q
 | next =>
  obtain ⟨σ', H', J, q⟩ := hs
  exact fin (v := V.non) (u := Value.none) J rfl q
 | brk =>
  obtain ⟨_, _, _, q⟩ := hs
  exact False.elim q
 | cont =>
  obtain ⟨_, _, _, q⟩ := hs
  exact False.elim q
end L2
namespace L2
open PySem PySem.Spec PyProof.Rows
section
variable {X : Cx} {x : Str} {p pos : Pos} {e : Expr} {es : List Expr} {t : TA} {id T : String} {r : List V -> Hp -> VK -> Prop}
def tCB (r : List V -> Hp -> VK -> Prop) (t : TA) : TE := fun σ H Q => t σ H fun vs H1 => r vs H1 Q
theorem pe_callB (hc : CallR X (.builtin id) r) (hg : Gl X x) (hm : X.mg x = none) (hv : bootBuiltins x = some (.builtin id)) (ha : PA X (e :: es) t) (hn : x ≠ "__name__" := by decide) (hdb : (x == ("__debug__" : Str)) = false := by decide)
  (he : starEach (e :: es) X.env = (false, eval e X.env) :: starEach es X.env := by rfl) (hpl : (backTo pos (starEach es X.env)).any (·.1) = false := by rfl) : PE X (.Call (.Name x p) (e :: es) [] pos) (tCB r t) := by
 intro pins s σ H Q I h
 refine wpAny_Call_Name_kw (ld_blt I hg hm hv ?_ hn hdb)
 exact PyProof.Rows.callWith_builtin1 (thn (ha pos pins s σ H _ I h) fun us s1 ⟨vs, H1, I1, r1, q1⟩ => hc pins s1 σ H1 vs us Q I1 r1 q1) he hpl
theorem pe_callTy (hc : CallR X (.type T) r) (hg : Gl X x) (hm : X.mg x = none) (hv : bootBuiltins x = some (.type T)) (ha : PA X (e :: es) t) (hn : x ≠ "__name__" := by decide) (hdb : (x == ("__debug__" : Str)) = false := by decide)
  (he : starEach (e :: es) X.env = (false, eval e X.env) :: starEach es X.env := by rfl) (hpl : (backTo pos (starEach es X.env)).any (·.1) = false := by rfl) : PE X (.Call (.Name x p) (e :: es) [] pos) (tCB r t) := by
 intro pins s σ H Q I h
 refine wpAny_Call_Name_kw (ld_blt I hg hm hv ?_ hn hdb)
 exact PyProof.Rows.callWith_type1 (thn (ha pos pins s σ H _ I h) fun us s1 ⟨vs, H1, I1, r1, q1⟩ => hc pins s1 σ H1 vs us Q I1 r1 q1) he hpl
end
end L2
namespace HT
open PySem PyProof.Rows
section
open PySem.SeqAt
open PySem.AutoSeq1 (wpAny_loadPart')
open PySem.MeetsSeq PySem.MeetsSeq2 PySem.MeetsSeq3
end
section
variable {prog : Program} {w : World} {A : Around} {E : Value -> Shared -> Prop} {s : Shared}
def sIx (n d : Nat) : Option Int -> Nat
 | none => d
 | some v => if v < 0 then (v + (n : Int)).toNat else min v.toNat n
theorem sIx_none (n d : Nat) : sIx n d none = d := rfl
theorem sIx_nat (n d k : Nat) : sIx n d (some (k : Int)) = min k n := by
 show (if (k : Int) < 0 then ((k : Int) + (n : Int)).toNat else min (k : Int).toNat n) = min k n
 rw [if_neg (by omega), Int.toNat_natCast]
end
end HT
namespace L2
open PySem PySem.Spec PyProof.Rows
abbrev TO := St -> Hp -> (Option Int -> Hp -> Prop) -> Prop
def PO (X : Cx) (e : Option Expr) (t : TO) : Prop :=
 ∀ (pins : List (Addr × Obj)) (s : Shared) (σ : St) (H : Hp) (Q : Option Int -> Hp -> Prop), Inv X pins σ H s -> t σ H Q ->
  wpAny (model X.prog X.w) X.A (evalPart e X.env) (fun u s' => ∃ o H', Inv X pins σ H' s' ∧ IsPart u o ∧ Q o H') X.xe s
def tNoPart : TO := fun _ H Q => Q none H
def tPart (t : TE) : TO := fun σ H Q => t σ H fun x H1 => ∃ i, x = .int i ∧ Q (some i) H1
section
variable {X : Cx} {e : Expr} {te : TE} {lo hi : Option Expr} {tl th : TO} {pos p2 : Pos}
theorem po_none : PO X none tNoPart := by
 intro pins s σ H Q I h
 rw [evalPart_none]
 exact wpAny_pure ⟨none, H, I, .none, h⟩
theorem po_some (h : PE X e te) : PO X (some e) (tPart te) := by
 intro pins s σ H Q I hw
 rw [evalPart_some]
 refine thn (h pins s σ H _ I hw) fun u s1 ⟨x, H1, I1, r1, q1⟩ => ?_
 obtain ⟨i, rfl, q⟩ := q1
 obtain ⟨t, rfl⟩ := r1
 exact ⟨some i, H1, I1, .int i t, q⟩
def SlR (X : Cx) (r : V -> Option Int -> Option Int -> Hp -> VK -> Prop) : Prop :=
 ∀ (pins : List (Addr × Obj)) (s : Shared) (σ : St) (H : Hp) (x : V) (v vl vu : Value) (lo hi : Option Int) (sl : Addr) (Q : VK), Inv X pins σ H s -> RelV x v -> s.heap.IsSliceOf sl vl vu .none -> IsPart vl lo -> IsPart vu hi -> r x lo hi H Q ->
  ∃ T id, typeLookup (.type T) "__getitem__" = pure (some (.builtin id)) ∧ s.TypeIs v T ∧ wpAny (model X.prog X.w) X.A (getItem v (.ref sl)) (EP X pins σ Q) X.xe s
def tSl (r : V -> Option Int -> Option Int -> Hp -> VK -> Prop) (te : TE) (tl th : TO) : TE := fun σ H Q => te σ H fun x H1 => tl σ H1 fun l H2 => th σ H2 fun u H3 => r x l u H3 Q
theorem pe_slice {r : V -> Option Int -> Option Int -> Hp -> VK -> Prop} (hr : SlR X r) (he : PE X e te) (hl : PO X lo tl) (hu : PO X hi th) : PE X (.Subscript e (.Slice lo hi none p2) pos) (tSl r te tl th) := by
 intro pins s σ H Q I h
 refine Subscript_ (thn (he pins s σ H _ I h) fun v s1 ⟨x, H1, I1, r1, q1⟩ => ?_)
 refine wpAny_Slice (thn (hl pins s1 σ H1 _ I1 q1) fun vl s2 ⟨l, H2, I2, pl, q2⟩ => thn (hu pins s2 σ H2 _ I2 q2) fun vu s3 ⟨u, H3, I3, pu, q3⟩ => ?_)
 rw [evalPart_none]
 refine wpAny_pure ?_
 have I4 : Inv X pins σ H3 { s3 with heap := s3.heap.push { cls := .type "slice", data := .fields #[vl, vu, .none] } } := I3.kept (t' := s3.toks) fun b ob q => Heap.get?_push_of_some _ q
 obtain ⟨T, id, hT, ht, hg⟩ := hr pins { s3 with heap := s3.heap.push { cls := .type "slice", data := .fields #[vl, vu, .none] } } σ H3 x v vl vu l u s3.heap.objs.size Q I4 r1 (Heap.IsSliceOf.new ..) pl pu q3
 show wpAny (model X.prog X.w) X.A (subscriptTail e (.Slice lo hi none p2) v (.ref s3.heap.objs.size)) (EP X pins σ Q) X.xe { s3 with heap := s3.heap.push { cls := .type "slice", data := .fields #[vl, vu, .none] } }
 exact tail_any (ops := [.ref s3.heap.objs.size, v]) ht hT hg (by with_unfolding_all rfl)
def cutV (xs : List V) (lo hi : Option Int) : List V := (xs.drop (HT.sIx xs.length 0 lo)).take (HT.sIx xs.length xs.length hi - HT.sIx xs.length 0 lo)
theorem cutV_length (xs : List V) (lo hi : Option Int) : (cutV xs lo hi).length <= xs.length := by
 unfold cutV
 rw [List.length_take, List.length_drop]
 omega
end
end L2
namespace L2
open PySem PySem.Spec PyProof.Rows
def ixN (n : Nat) (i : Int) : Option Nat := if 0 <= i then (if i < n then some i.toNat else none) else if -(n : Int) <= i then some (i + n).toNat else none
def atI {α : Type} (xs : List α) (i : Int) : Option α := (ixN xs.length i).bind fun j => xs[j]?
theorem ixN_seq {n : Nat} {i : Int} {j : Nat} (h : ixN n i = some j) : seqIndex? i n = some j ∧ j < n ∧ -(n : Int) <= i ∧ i < n := by
 unfold ixN at h
 by_cases h0 : 0 <= i
 ·rw [if_pos h0] at h
  by_cases h1 : i < n
  ·rw [if_pos h1] at h
   have e : i.toNat = j := Option.some.inj h
   exact ⟨by rw [seqIndex_of h0 h1, e], by omega, by omega, h1⟩
  ·rw [if_neg h1] at h; cases h
 ·rw [if_neg h0] at h
  by_cases h1 : -(n : Int) <= i
  ·rw [if_pos h1] at h
   have e : (i + n).toNat = j := Option.some.inj h
   exact ⟨by rw [seqIndex_neg (by omega) h1, e], by omega, h1, by omega⟩
  ·rw [if_neg h1] at h; cases h
theorem atI_get {α : Type} {xs : List α} {i : Int} {v : α} (h : atI xs i = some v) : ∃ j, seqIndex? i xs.length = some j ∧ xs[j]? = some v ∧ j < xs.length ∧ -(xs.length : Int) <= i ∧ i < xs.length := by
 unfold atI at h
 cases e : ixN xs.length i with
 | none => rw [e] at h; cases h
 | some j =>
  rw [e] at h
  obtain ⟨h1, h2, h3, h4⟩ := ixN_seq e
  exact ⟨j, h1, h, h2, h3, h4⟩
theorem atI_nat {α : Type} {xs : List α} {j : Nat} {v : α} (h : xs[j]? = some v) : atI xs (j : Int) = some v := by
 have hj : j < xs.length := (List.getElem?_eq_some_iff.mp h).1
 have e : ixN xs.length (j : Int) = some j := by
  unfold ixN
  rw [if_pos (by omega), if_pos (by omega)]; simp
 unfold atI; rw [e]; exact h
def PlainIx (b : Expr) : Prop := ∀ o i, subscripted b false o i = operate [o, i] (getItem o i)
def IxR (X : Cx) (r : R2) : Prop :=
 ∀ (value slice : Expr) (pins : List (Addr × Obj)) (s : Shared) (σ : St) (H : Hp) (x y : V) (v u : Value) (Q : VK), Inv X pins σ H s -> RelV x v -> RelV y u -> r x y H Q ->
  subscripted slice false v u = operate [v, u] (getItem v u) -> wpAny (model X.prog X.w) X.A (subscriptTail value slice v u) (EP X pins σ Q) X.xe s
def MtR (X : Cx) (id : String) (r : V -> List V -> Hp -> VK -> Prop) : Prop :=
 ∀ (pins : List (Addr × Obj)) (s : Shared) (σ : St) (H : Hp) (x : V) (xs : List V) (v : Value) (us : List Value) (Q : VK), Inv X pins σ H s -> RelV x v -> Vals xs us -> r x xs H Q ->
  wpAny (model X.prog X.w) X.A (call (.builtin id) (v :: us)) (EP X pins σ Q) X.xe s
section
variable {X : Cx} {a b : Expr} {ta tb : TE} {pos : Pos}
theorem pe_ix {r : R2} (hr : IxR X r) (ha : PE X a ta) (hb : PE X b tb) (hs : PlainIx b) : PE X (.Subscript a b pos) (tOp r ta tb) := by
 intro pins s σ H Q I h
 exact Subscript_ (binT ha hb I h fun v u s2 x y H2 I2 rx ry q => hr a b pins s2 σ H2 x y v u Q I2 rx ry q (hs _ _))
def rIxL (K : PySem.W.Frag) : R2 := fun x y H Q => ∃ p xs i v, x = .ref p ∧ y = .int i ∧ SqL K H p xs ∧ atI xs i = some v ∧ Q v H
def rIxT (K : PySem.W.Frag) : R2 := fun x y H Q => ∃ p xs i v, x = .ref p ∧ y = .int i ∧ SqT K H p xs ∧ atI xs i = some v ∧ Q v H
theorem ix_list : IxR X (rIxL X.K) := by
 intro value slice pins s σ H x y v u Q I rx ry h hs
 obtain ⟨p, xs, i, z, rfl, rfl, hq, he, q⟩ := h
 cases rx
 obtain ⟨t, rfl⟩ := ry
 obtain ⟨its, r, pl, hz⟩ := I.list hq
 obtain ⟨j, h1, h2, h3, h4, h5⟩ := atI_get he
 obtain ⟨w, ew, rw'⟩ := r.get h2
 have hl := r.length
 have hn := line63
 have fin : EP X pins σ Q w s := ⟨z, H, I, rw', q⟩
 by_cases h0 : 0 <= i
 ·have hj : i.toNat = j := by
   rw [seqIndex_of h0 h5] at h1
   exact Option.some.inj h1
  exact item_listR pl.isList h0 (by omega) (by rw [hj]; simpa using ew) fin hs
 ·have hj : (i + (its.toArray.size : Int)).toNat = j := by
   rw [seqIndex_neg (by omega) h4] at h1
   rw [List.size_toArray, ← hl]
   exact Option.some.inj h1
  exact subscriptTail_builtinR (x := w) pl.isList.typeIs slot_list_getitem.lookup
   (wpAny_getItem_list_neg (Q := fun r s' => r = w ∧ EP X pins σ Q r s') pl.isList (by omega) (by rw [List.size_toArray] <;> omega) (by omega) (by rw [hj]; simpa using ew) ⟨rfl, fin⟩) hs
theorem ix_tup : IxR X (rIxT X.K) := by
 intro value slice pins s σ H x y v u Q I rx ry h hs
 obtain ⟨p, xs, i, z, rfl, rfl, hq, he, q⟩ := h
 cases rx
 obtain ⟨t, rfl⟩ := ry
 obtain ⟨its, r, pl, hz⟩ := I.tuple hq
 obtain ⟨j, h1, h2, h3, h4, h5⟩ := atI_get he
 obtain ⟨w, ew, rw'⟩ := r.get h2
 have hl := r.length
 have hn := line63
 have fin : EP X pins σ Q w s := ⟨z, H, I, rw', q⟩
 exact subscriptTail_builtinR (x := w) pl.typeIs slot_tuple_getitem.lookup
  (getItem_tuple (j := j) (Q := fun r s' => r = w ∧ EP X pins σ Q r s') pl (by omega) (by omega) (by rw [List.size_toArray, ← hl]; exact h1) (by simpa using ew) ⟨rfl, fin⟩) hs
theorem mapSeq_set (its : List Value) (n j : Nat) (u : Value) : Obj.mapSeq (·.setIfInBounds j u) { cls := .type "list", data := .seq its.toArray n } = { cls := .type "list", data := .seq (its.set j u).toArray n } := by
 simp [Obj.mapSeq]
theorem Inv.lst {pins : List (Addr × Obj)} {σ : St} {H : Hp} {s : Shared} {p : Addr} {xs : List V} (I : Inv X pins σ H s) (h : H p = some (.lst xs)) :
  ∃ (its : List Value) (n : Nat), Vals xs its ∧ s.heap.get? p = some { cls := .type "list", data := .seq its.toArray n } ∧ xs.length <= sizeLine := by
 obtain ⟨z, its, n, r, e⟩ := I.hok p _ h
 exact ⟨its, n, r, e, z⟩
theorem Inv.lstUpd {pins : List (Addr × Obj)} {σ : St} {H : Hp} {s : Shared} {p : Addr} {xs ys : List V} {its its' : List Value} {n n' : Nat} {f : Obj -> Obj} (I : Inv X pins σ H s) (h : H p = some (.lst xs))
  (ho : s.heap.get? p = some { cls := .type "list", data := .seq its.toArray n }) (hf : f { cls := .type "list", data := .seq its.toArray n } = { cls := .type "list", data := .seq its'.toArray n' }) (r : Vals ys its') (hz : ys.length <= sizeLine) (t : Nat) :
  Inv X pins σ (upd H p (.lst ys)) { s with heap := s.heap.update p f, toks := t } := by
 have e : (s.heap.update p f).get? p = some { cls := .type "list", data := .seq its'.toArray n' } := by
  rw [Heap.get?_update_self f ho (by rw [hf] <;> rfl), hf]
 refine I.write (x := p) (e := p) (by rw [h]; trivial) (.inl rfl) (fun b u hb q => (Heap.get?_update_other _ _ (Ne.symm hb)).trans q) ⟨_, e⟩ ?_
 exact ⟨hz, its', n', r, e⟩
def rSetL : V -> V -> V -> Hp -> (Hp -> Prop) -> Prop := fun o i v H Q => ∃ p xs k j, o = .ref p ∧ i = .int k ∧ H p = some (.lst xs) ∧ ixN xs.length k = some j ∧ Q (upd H p (.lst (xs.set j v)))
theorem set_list : PSet X rSetL := by
 intro pins s σ H o i v ov iv u Q I ro ri rv h
 obtain ⟨p, xs, k, j, rfl, rfl, hp, hj, q⟩ := h
 cases ro
 obtain ⟨t, rfl⟩ := ri
 obtain ⟨its, n, r, ho, hz⟩ := I.lst hp
 obtain ⟨h1, h2, h3, h4⟩ := ixN_seq hj
 have hl := r.length
 have hn := line63
 have I' : Inv X pins σ (upd H p (.lst (xs.set j v))) { s with heap := s.heap.update p (Obj.mapSeq (·.setIfInBounds j u)) } :=
  I.lstUpd hp ho (mapSeq_set its n j u) (r.set rv j) (by rw [List.length_set]; exact hz) s.toks
 by_cases h0 : 0 <= k
 ·have hk : k.toNat = j := by
   rw [seqIndex_of h0 h4] at h1
   exact Option.some.inj h1
  exact PySem.W.ki_setAt ho h0 (by omega) (by rw [List.size_toArray, ← hl]; exact h4) (by rw [hk]; exact ⟨_, I', q⟩)
 ·have hk : (k + (its.toArray.size : Int)).toNat = j := by
   rw [seqIndex_neg (by omega) h3] at h1
   rw [List.size_toArray, ← hl]
   exact Option.some.inj h1
  exact PySem.W.ki_setBack ho (by omega) (by rw [List.size_toArray, ← hl]; exact h3) (by omega) (by rw [hk]; exact ⟨_, I', q⟩)
theorem slice_bounds (lo hi : Option Int) (n : Nat) : (sliceBounds lo hi none n).1 = ((HT.sIx n 0 lo : Nat) : Int) ∧ (sliceBounds lo hi none n).2.1 = ((HT.sIx n n hi : Nat) : Int) ∧ (sliceBounds lo hi none n).2.2 = 1 := by
 refine ⟨?_, ?_, rfl⟩
 ·cases lo with
  | none => simp [sliceBounds, HT.sIx]
  | some i =>
   simp only [sliceBounds, HT.sIx, Option.getD_none, show (1 : Int) > 0 by decide, if_true]
   by_cases h : i < 0
   ·simp only [h, if_true] <;> omega
   ·simp only [h, if_false] <;> omega
 ·cases hi with
  | none => simp [sliceBounds, HT.sIx]
  | some i =>
   simp only [sliceBounds, HT.sIx, Option.getD_none, show (1 : Int) > 0 by decide, if_true]
   by_cases h : i < 0
   ·simp only [h, if_true] <;> omega
   ·simp only [h, if_false] <;> omega
theorem slicePick_cut (its : List Value) (lo hi : Option Int) : slicePick its.toArray lo hi none = ((its.drop (HT.sIx its.length 0 lo)).take (HT.sIx its.length its.length hi - HT.sIx its.length 0 lo)).toArray := by
 obtain ⟨h1, h2, h3⟩ := slice_bounds lo hi its.toArray.size
 unfold slicePick
 rw [h1, h2, h3]
 simp only [sliceRange_one, pick_run, List.size_toArray] <;> rfl
def rSlL (K : PySem.W.Frag) : V -> Option Int -> Option Int -> Hp -> VK -> Prop := fun x lo hi H Q => ∃ a xs, x = .ref a ∧ SqL K H a xs ∧ ∀ p, H p = none -> Q (.ref p) (upd H p (.lst (cutV xs lo hi)))
theorem sl_list : SlR X (rSlL X.K) := by
 intro pins s σ H x v vl vu lo hi sl Q I rx hs pl pu h
 obtain ⟨a, xs, rfl, hx, q⟩ := h
 cases rx
 obtain ⟨its, r, ht, hz⟩ := I.list hx
 have hlen := r.length
 refine ⟨"list", _, slot_list_getitem.lookup, ht.isList.typeIs, ?_⟩
 refine wpAny_getItem_list_slice ht.isList hs pl pu .none (by simp) ?_ (by rw [List.size_toArray] <;> omega)
 rw [slicePick_cut, ← hlen]
 refine ⟨.ref s.heap.objs.size, _, I.laid (t' := s.toks) (o := .lst (cutV xs lo hi)) (fun b ob q => Heap.get?_push_of_some _ q) (Nat.le_refl _) ?_, rfl, q _ (I.hok.fresh (Nat.le_refl _))⟩
 exact ⟨Nat.le_trans (cutV_length xs lo hi) hz, _, 0, (r.drop (HT.sIx xs.length 0 lo)).take (HT.sIx xs.length xs.length hi - HT.sIx xs.length 0 lo), Heap.get?_push_size _ rfl⟩
def flatV : V -> Bool
 | .non => true
 | .bl _ => true
 | .int _ => true
 | .str _ => true
 | _ => false
def eqV : V -> V -> Bool
 | .non, .non => true
 | .bl a, .bl b => a == b
 | .bl a, .int b => (if a then 1 else 0) == b
 | .int a, .bl b => a == (if b then 1 else 0)
 | .int a, .int b => a == b
 | .str a, .str b => a == b
 | _, _ => false
def inV (x : V) (xs : List V) : Bool := xs.any fun y => eqV y x
def rIn (K : PySem.W.Frag) (neg : Bool) : R2 := fun x y H Q => ∃ p xs, y = .ref p ∧ (SqL K H p xs ∨ SqT K H p xs) ∧ flatV x = true ∧ xs.all flatV = true ∧ Q (.bl (if neg then !inV x xs else inV x xs)) H
theorem call_len_seq : CallR X (.builtin "len") (fun xs H Q => ∃ p ys, xs = [.ref p] ∧ (SqL X.K H p ys ∨ SqT X.K H p ys) ∧ Q (.int ys.length) H) := by
 intro pins s σ H xs us Q I r h
 obtain ⟨p, ys, rfl, hq, q⟩ := h
 obtain ⟨u, rfl, rx⟩ := vals1 r
 cases rx
 have hn := line63
 rcases hq with hq | hq
 ·obtain ⟨its, r', pl, hz⟩ := I.list hq
  have hlen := r'.length
  exact Calls.call_len_list pl.isList (by simp only [List.size_toArray] <;> omega) ⟨.int ys.length, H, I.tok _, ⟨s.toks + 1, by rw [List.size_toArray, hlen]⟩, q⟩
 ·obtain ⟨its, r', pl, hz⟩ := I.tuple hq
  have hlen := r'.length
  exact len_tuple pl (by simp only [List.size_toArray] <;> omega) ⟨.int ys.length, H, I.tok _, ⟨s.toks + 1, by rw [List.size_toArray, hlen]⟩, q⟩
theorem call_list_of : CallR X (.type "list") (fun xs H Q => ∃ p ys, xs = [.ref p] ∧ (SqL X.K H p ys ∨ SqT X.K H p ys) ∧ ∀ l, H l = none -> Q (.ref l) (upd H l (.lst ys))) := by
 intro pins s σ H xs us Q I r h
 obtain ⟨p, ys, rfl, hq, q⟩ := h
 obtain ⟨u, rfl, rx⟩ := vals1 r
 cases rx
 have fin : ∀ (its : List Value), Vals ys its -> ys.length <= sizeLine -> ∀ (h' : Heap) (c' : Nat), (∀ b o', s.heap.get? b = some o' -> h'.get? b = some o') ->
   h'.get? s.heap.objs.size = some { cls := .type "list", dict := none, data := .seq its.toArray c', slots := #[] } -> EP X pins σ Q (.ref s.heap.objs.size) { s with heap := h' } := fun its r' hz h' c' kp e =>
  ⟨.ref s.heap.objs.size, _, I.laid (t' := s.toks) kp (Nat.le_refl _) (show ObjOk X.prog X.w _ h' _ (.lst ys) from ⟨hz, its, c', r', e⟩), rfl, q _ (I.hok.fresh (Nat.le_refl _))⟩
 rcases hq with hq | hq
 ·obtain ⟨its, r', pl, hz⟩ := I.list hq
  have hlen := r'.length
  obtain ⟨o, ho, hc, n, hd⟩ := pl.isList
  exact call_list_seq p (.inl rfl) ho hc hd (fun h' c' kp e => fin its r' hz h' c' kp e) (by simp only [List.size_toArray] <;> omega)
 ·obtain ⟨its, r', pl, hz⟩ := I.tuple hq
  have hlen := r'.length
  obtain ⟨o, ho, hc, n, hd⟩ := pl
  exact call_list_seq p (.inr rfl) ho hc hd (fun h' c' kp e => fin its r' hz h' c' kp e) (by simp only [List.size_toArray] <;> omega)
theorem call_tuple_of : CallR X (.type "tuple") (fun xs H Q => ∃ p ys, xs = [.ref p] ∧ ((SqL X.K H p ys ∧ ∀ l, H l = none -> Q (.ref l) (upd H l (.tup ys))) ∨ (SqT X.K H p ys ∧ Q (.ref p) H))) := by
 intro pins s σ H xs us Q I r h
 obtain ⟨p, ys, rfl, h⟩ := h
 obtain ⟨u, rfl, rx⟩ := vals1 r
 cases rx
 rcases h with ⟨hq, q⟩ | ⟨hq, q⟩
 ·obtain ⟨its, r', pl, hz⟩ := I.list hq
  have hlen := r'.length
  refine call_tuple_list pl.isList (fun h' kp => ?_) (by simp only [List.size_toArray] <;> omega)
  have I1 : Inv X pins σ H { s with heap := h' } := I.kept (t' := s.toks) kp
  have I2 : Inv X pins σ (upd H h'.objs.size (.tup ys)) { s with heap := h'.push { cls := .type "tuple", data := .seq its.toArray } } :=
   I1.laid (t' := s.toks) (fun b o e => Heap.get?_push_of_some _ e) (Nat.le_refl _) (show ObjOk X.prog X.w _ _ _ (.tup ys) from ⟨hz, its, r', IsTup.new _ _⟩)
  exact ⟨.ref h'.objs.size, _, I2, rfl, q _ (I1.hok.fresh (Nat.le_refl _))⟩
 ·obtain ⟨its, r', pl, hz⟩ := I.tuple hq
  exact call_tuple_same pl ⟨.ref p, H, I, rfl, q⟩
def tyV (K : PySem.W.Frag) (T : String) (x : V) (H : Hp) : Prop := match x with
 | .str _ => T = "str"
 | .int _ => T = "int"
 | .ref p => (T = "list" ∧ ∃ xs, SqL K H p xs) ∨ (T = "tuple" ∧ ∃ o, K.lookup p = some o ∧ o.cls = .type "tuple" ∧ o.dict = none) ∨
   (T = "dict" ∧ ((∃ kvs, H p = some (.dK kvs)) ∨ ∃ kvs, H p = some (.dT kvs))) ∨ (T = "set" ∧ ∃ S n, H p = some (.set S n))
 | _ => False
theorem tyV_is {pins : List (Addr × Obj)} {σ : St} {H : Hp} {s : Shared} {T : String} {x : V} {v : Value} (I : Inv X pins σ H s) (r : RelV x v) (ty : tyV X.K T x H) :
  s.TypeIs v T ∧ ∀ a, v = .ref a -> ∃ ob, s.heap.get? a = some ob ∧ ob.dict = none := by
 cases x with
 | str z =>
  obtain ⟨t, rfl⟩ := r
  cases (show T = "str" from ty)
  exact ⟨typeIs_str s z t, fun _ e => nomatch e⟩
 | int i =>
  obtain ⟨t, rfl⟩ := r
  cases (show T = "int" from ty)
  exact ⟨typeIs_int s i t, fun _ e => nomatch e⟩
 | ref p =>
  cases r
  rcases ty with ⟨rfl, xs, hq⟩ | ⟨rfl, o, hk, hc, hd⟩ | ⟨rfl, hk⟩ | ⟨rfl, S, n, hk⟩
  ·obtain ⟨its, _, pl, _⟩ := I.list hq
   refine ⟨pl.isList.typeIs, fun a e => ?_⟩
   cases e
   obtain ⟨o, n, e, c, hd, _⟩ := pl
   exact ⟨o, e, hd⟩
  ·refine ⟨⟨o, I.kIn p o hk, hc⟩, fun a e => ?_⟩
   cases e
   exact ⟨o, I.kIn _ o hk, hd⟩
  ·have z : ∃ o, s.heap.get? p = some o ∧ o.ExactDict := by
    rcases hk with ⟨kvs, hk⟩ | ⟨kvs, hk⟩
    ·obtain ⟨_, _, _, _, o, _, _, e, ex, _⟩ := I.hok p _ hk
     exact ⟨o, e, ex⟩
    ·obtain ⟨_, _, _, _, o, _, _, e, ex, _⟩ := I.hok p _ hk
     exact ⟨o, e, ex⟩
   obtain ⟨o, e, ex⟩ := z
   refine ⟨⟨o, e, ex.1⟩, fun a e2 => ?_⟩
   cases e2
   exact ⟨o, e, ex.2.1⟩
  ·obtain ⟨o, _, _, _, e, ex, _⟩ := I.hok p _ hk
   refine ⟨⟨o, e, ex.1⟩, fun a e2 => ?_⟩
   cases e2
   exact ⟨o, e, ex.2.1⟩
 | _ => exact False.elim ty
def tBM0 (K : PySem.W.Frag) (T : String) (r : V -> List V -> Hp -> VK -> Prop) (to : TE) : TE := fun σ H Q => to σ H fun x H1 => tyV K T x H1 ∧ r x [] H1 Q
def tBM (K : PySem.W.Frag) (T : String) (r : V -> List V -> Hp -> VK -> Prop) (to : TE) (t : TA) : TE := fun σ H Q => to σ H fun x H1 => tyV K T x H1 ∧ t σ H1 fun xs H2 => r x xs H2 Q
variable {o e : Expr} {es : List Expr} {to : TE} {t : TA} {name : Str} {apos cpos : Pos} {T id : String} {r : V -> List V -> Hp -> VK -> Prop}
theorem pe_bm0 (pa : PlainAttrs T) (slot : Slot T name id) (hty : typeOf (.builtin id) = pure (.type "method_descriptor")) (hm : MtR X id r) (ho : PE X o to)
  (hbase : attributeBase o name X.env (eval o X.env) = eval o X.env := by rfl) (hline : (apos.endLine == cpos.line) = true := by rfl) : PE X (.Call (.Attribute o name apos) [] [] cpos) (tBM0 X.K T r to) := by
 intro pins s σ H Q I h
 refine wpAny_Call_method0_late hbase hline (thn (ho pins s σ H _ I h) fun v s1 ⟨x, H1, I1, r1, ty, q1⟩ => ?_)
 obtain ⟨h1, h2⟩ := tyV_is I1 r1 ty
 exact ⟨T, id, pa, slot, hty, h1, h2, Calls.callWith_builtin rfl (PySem.evalArgs_none (hm pins s1 σ H1 x [] v [] Q I1 r1 .nil q1))⟩
theorem pe_bm (pa : PlainAttrs T) (slot : Slot T name id) (hty : typeOf (.builtin id) = pure (.type "method_descriptor")) (hm : MtR X id r) (ho : PE X o to) (ha : PA X (e :: es) t)
  (hbase : attributeBase o name X.env (eval o X.env) = eval o X.env := by rfl)
  (hfew : ((backTo cpos (starEach (e :: es) X.env)).all (fun x => !x.1) && (backToKw cpos (keywordEach [] X.env)).all (fun x => x.1.isSome)
   && decide ((e :: es).length + ([] : List Keyword).length + (if ([] : List Keyword).isEmpty then 0 else 1) < 30)) = true := by rfl)
  (hline : (apos.endLine == cpos.line) = true := by rfl) (hs : starEach (e :: es) X.env = (false, eval e X.env) :: starEach es X.env := by rfl) (hplain : (backTo cpos (starEach es X.env)).any (·.1) = false := by rfl) :
  PE X (.Call (.Attribute o name apos) (e :: es) [] cpos) (tBM X.K T r to t) := by
 intro pins s σ H Q I h
 refine wpAny_Call_method_late hbase hfew hline rfl (thn (ho pins s σ H _ I h) fun v s1 ⟨x, H1, I1, r1, ty, q1⟩ => ?_)
 obtain ⟨h1, h2⟩ := tyV_is I1 r1 ty
 refine ⟨T, id, pa, slot, hty, h1, h2, ?_⟩
 have hA := ha cpos pins s1 σ H1 _ I1 q1
 rw [hs] at hA ⊢
 refine Calls.callWith_builtin (by show (false || (backTo cpos (starEach es X.env)).any (·.1)) = false; rw [hplain] <;> rfl) (Calls.evalArgs_plain ?_)
 exact thn hA fun us s2 ⟨vs, H2, I2, r2, q2⟩ => hm pins s2 σ H2 x vs v us Q I2 r1 r2 q2
/- xs.append(e), list.index on a module's tuple .. are MtR facts of 06m -/
end
end L2
namespace L2
open PySem PySem.Spec PyProof.Rows
def MtM (X : Cx) (id : String) (r : V -> List V -> Hp -> VK -> Prop) : Prop :=
 ∀ (pins : List (Addr × Obj)) (s : Shared) (σ : St) (H : Hp) (x : V) (xs : List V) (v : Value) (us : List Value) (Q : VK), Inv X pins σ H s -> RelV x v -> Vals xs us -> r x xs H Q ->
  wpAny (model X.prog X.w) X.A (call (.builtin id) (v :: us)) (EP X pins σ Q) X.xe s
theorem Vals.one : ∀ {x : V} {us : List Value}, Vals [x] us -> ∃ u, us = [u] ∧ RelV x u
 | _, _, .cons r .nil => ⟨_, rfl, r⟩
theorem Vals.zero : ∀ {us : List Value}, Vals [] us -> us = []
 | _, .nil => rfl
theorem Vals.dropLast {xs : List V} {us : List Value} (h : Vals xs us) : Vals xs.dropLast us.dropLast := by
 induction h with
 | nil => exact .nil
 | cons r t ih =>
  cases t with
  | nil => exact .nil
  | cons q t' => exact .cons r ih
theorem Vals.eraseIdx : ∀ {xs : List V} {us : List Value} (i : Nat), Vals xs us -> Vals (xs.eraseIdx i) (us.eraseIdx i)
 | _, _, _, .nil => .nil
 | _, _, 0, .cons _ t => t
 | _, _, i + 1, .cons r t => .cons r (Vals.eraseIdx i t)
theorem erase_last {α : Type} (l : List α) : l.eraseIdx (l.length - 1) = l.dropLast := by
 induction l with
 | nil => rfl
 | cons a r ih =>
  cases r with
  | nil => rfl
  | cons b r =>
   have e : (a :: b :: r).length - 1 = ((b :: r).length - 1) + 1 := by
    have h1 : (a :: b :: r).length = r.length + 2 := rfl
    have h2 : (b :: r).length = r.length + 1 := rfl
    omega
   rw [e, List.eraseIdx_cons_succ, ih]
   all_goals rfl
theorem len_erase {α : Type} : ∀ (l : List α) (i : Nat), (l.eraseIdx i).length <= l.length
 | [], _ => Nat.le_refl _
 | _ :: _, 0 => Nat.le_succ _
 | _ :: r, i + 1 => Nat.succ_le_succ (len_erase r i)
section
variable {X : Cx} {pins : List (Addr × Obj)} {σ : St} {H : Hp} {s : Shared} {l b : Addr} {xs ys zs : List V}
theorem Inv.lset {its its' : List Value} {n : Nat} {f : Array Value -> Array Value} {t' : Nat} (I : Inv X pins σ H s) (hH : H l = some (.lst xs))
  (e : s.heap.get? l = some { cls := .type "list", data := .seq its.toArray n }) (hf : f its.toArray = its'.toArray) (hv : Vals ys its') (hz : ys.length <= sizeLine) :
  Inv X pins σ (upd H l (.lst ys)) { s with heap := s.heap.update l (Obj.mapSeq f), toks := t' } := by
 have q := PySem.IsL.update e f
 rw [hf] at q
 refine I.write (x := l) (e := l) (by rw [hH]; exact trivial) (.inl rfl) (fun b' u hb hu => (Heap.get?_update_other s.heap (Obj.mapSeq f) (Ne.symm hb)).trans hu) ⟨_, q⟩ ?_
 exact ⟨hz, its', _, hv, q⟩
theorem Inv.lnew {its : List Value} {t' : Nat} (I : Inv X pins σ H s) (hv : Vals ys its) (hz : ys.length <= sizeLine) :
  Inv X pins σ (upd H s.heap.objs.size (.lst ys)) { s with heap := s.heap.push { cls := .type "list", data := .seq its.toArray }, toks := t' } :=
 I.laid (fun _ _ q => Heap.get?_push_of_some _ q) (Nat.le_refl _) ⟨hz, its, 0, hv, Heap.get?_push_size _ rfl⟩
theorem Inv.fresh (I : Inv X pins σ H s) : H s.heap.objs.size = none := I.hok.fresh (Nat.le_refl _)
theorem Inv.lstM (I : Inv X pins σ H s) (hH : H l = some (.lst xs)) : xs.length <= sizeLine ∧ ∃ (its : List Value) (n : Nat), Vals xs its ∧ xs.length = its.length ∧ s.heap.get? l = some { cls := .type "list", data := .seq its.toArray n } := by
 obtain ⟨z, its, n, r, e⟩ := I.hok l _ hH
 exact ⟨z, its, n, r, r.length, e⟩
theorem notLongL {n : Nat} (h : n <= sizeLine) : Builtin.List.listTooLong n = false := by
 unfold Builtin.List.listTooLong
 exact decide_eq_false (by omega)
end
section
variable {X : Cx}
def rAppend : V -> List V -> Hp -> VK -> Prop := fun x vs H Q => ∃ l xs y, x = .ref l ∧ vs = [y] ∧ H l = some (.lst xs) ∧ xs.length < sizeLine ∧ Q .non (upd H l (.lst (xs ++ [y])))
theorem mt_append : MtM X "list.append" rAppend := by
 intro pins s σ H x vs v us Q I rx rv h
 obtain ⟨l, xs, y, rfl, rfl, hH, hz, q⟩ := h
 cases rx
 obtain ⟨u, rfl, ru⟩ := rv.one
 obtain ⟨z, its, n, r, hl, e⟩ := I.lstM hH
 refine call_meets F.slot_list_append ⟨_, e, rfl⟩ F.entry_list_append (F.args_list_append_2 _ _) (PySem.list_append l its.toArray n u (by rw [List.size_toArray]; omega)) ⟨e, ?_⟩
 refine ⟨.non, _, I.lset (its' := its ++ [u]) hH e (by simp) (r.append (.cons ru .nil)) ?_, rfl, q⟩
 rw [List.length_append, List.length_singleton]
 omega
def rExtend : V -> List V -> Hp -> VK -> Prop := fun x vs H Q => ∃ l b xs zs, x = .ref l ∧ vs = [.ref b] ∧ H l = some (.lst xs) ∧ H b = some (.lst zs) ∧ xs.length + zs.length <= sizeLine ∧ Q .non (upd H l (.lst (xs ++ zs)))
theorem mt_extend : MtM X "list.extend" rExtend := by
 intro pins s σ H x vs v us Q I rx rv h
 obtain ⟨l, b, xs, zs, rfl, rfl, hH, hB, hz, q⟩ := h
 cases rx
 obtain ⟨u, rfl, ru⟩ := rv.one
 cases ru
 obtain ⟨z, its, n, r, hl, e⟩ := I.lstM hH
 obtain ⟨z2, its2, n2, r2, hl2, e2⟩ := I.lstM hB
 have hsz : its.toArray.size + its2.toArray.size <= sizeLine := by rw [List.size_toArray, List.size_toArray]; omega
 have hlong : ¬ (!its.toArray.isEmpty && Builtin.List.listTooLong (its.toArray.size + its2.toArray.size)) = true := by
  rw [notLongL hsz, Bool.and_false]
  exact Bool.false_ne_true
 refine call_meets F.slot_list_extend ⟨_, e, rfl⟩ F.entry_list_extend (F.args_list_extend_2 _ _)
  (AutoSeq1.list_extend_list_list_0 l its.toArray n b its2.toArray n2 hlong (by rw [List.size_toArray]; omega) (by omega)) ⟨e, e2, ?_⟩
 refine ⟨.non, _, I.lset (its' := its ++ its2) hH e (by simp) (r.append r2) ?_, rfl, q⟩
 rw [List.length_append]
 omega
def rPop : V -> List V -> Hp -> VK -> Prop := fun x vs H Q => ∃ l xs y, x = .ref l ∧ vs = [] ∧ H l = some (.lst xs) ∧ xs[xs.length - 1]? = some y ∧ Q y (upd H l (.lst xs.dropLast))
theorem mt_pop : MtM X "list.pop" rPop := by
 intro pins s σ H x vs v us Q I rx rv h
 obtain ⟨l, xs, y, rfl, rfl, hH, hy, q⟩ := h
 cases rx
 have hus := rv.zero
 subst hus
 obtain ⟨z, its, n, r, hl, e⟩ := I.lstM hH
 obtain ⟨u, hu, ru⟩ := r.get hy
 have hy' : its.toArray[its.toArray.size - 1]? = some u := by
  show its.toArray[its.length - 1]? = some u
  rw [← Array.getElem?_toList, ← hl]
  exact hu
 refine call_meets F.slot_list_pop ⟨_, e, rfl⟩ F.entry_list_pop (F.args_list_pop_1 _) (MeetsSeq.list_pop_last l its.toArray n u hy' (by rw [List.size_toArray]; omega)) ⟨e, ?_⟩
 refine ⟨y, _, I.lset (its' := its.dropLast) hH e ?_ r.dropLast ?_, ru, q⟩
 ·show its.toArray.eraseIdxIfInBounds (its.toArray.size - 1) = its.dropLast.toArray
  rw [List.size_toArray, List.eraseIdxIfInBounds_toArray, erase_last]
 ·rw [List.length_dropLast]
  omega
def rPopAt : V -> List V -> Hp -> VK -> Prop := fun x vs H Q => ∃ l xs i k y, x = .ref l ∧ vs = [.int i] ∧ H l = some (.lst xs) ∧ -(2 ^ 63) <= i ∧ i < 2 ^ 63 ∧ seqIndex? i xs.length = some k ∧ xs[k]? = some y ∧ Q y (upd H l (.lst (xs.eraseIdx k)))
theorem mt_popAt : MtM X "list.pop" rPopAt := by
 intro pins s σ H x vs v us Q I rx rv h
 obtain ⟨l, xs, i, k, y, rfl, rfl, hH, h1, h2, hk, hy, q⟩ := h
 cases rx
 obtain ⟨u, rfl, ru⟩ := rv.one
 obtain ⟨t, rfl⟩ := ru
 obtain ⟨z, its, n, r, hl, e⟩ := I.lstM hH
 obtain ⟨w, hw, rw'⟩ := r.get hy
 refine call_meets F.slot_list_pop ⟨_, e, rfl⟩ F.entry_list_pop (F.args_list_pop_2 _ _)
  (MeetsSeq.list_pop_at l its.toArray n i t k w (fitsIndex_both h1 h2) (by rw [List.size_toArray, ← hl]; exact hk) (by rw [← Array.getElem?_toList]; exact hw) (by rw [List.size_toArray]; omega)) ⟨e, ?_⟩
 refine ⟨y, _, I.lset (its' := its.eraseIdx k) hH e ?_ (r.eraseIdx k) ?_, rw', q⟩
 ·show its.toArray.eraseIdxIfInBounds k = (its.eraseIdx k).toArray
  rw [List.eraseIdxIfInBounds_toArray]
 ·have := len_erase xs k
  omega
def rClear : V -> List V -> Hp -> VK -> Prop := fun x vs H Q => ∃ l xs, x = .ref l ∧ vs = [] ∧ H l = some (.lst xs) ∧ Q .non (upd H l (.lst []))
def rCat : R2 := fun x y H Q => ∃ l b xs zs, x = .ref l ∧ y = .ref b ∧ H l = some (.lst xs) ∧ H b = some (.lst zs) ∧ xs.length + zs.length <= sizeLine ∧ ∀ p, H p = none -> Q (.ref p) (upd H p (.lst (xs ++ zs)))
theorem op_cat : OpR X (binaryOp .Add) rCat := by
 intro pins s σ H x y v u Q I rx ry h
 obtain ⟨l, b, xs, zs, rfl, rfl, hH, hB, hz, q⟩ := h
 cases rx
 cases ry
 obtain ⟨z, its, n, r, hl, e⟩ := I.lstM hH
 obtain ⟨z2, its2, n2, r2, hl2, e2⟩ := I.lstM hB
 refine PySem.P.add_list e e2 ?_ (by rw [List.size_toArray, List.size_toArray]; omega)
 have ea : its.toArray ++ its2.toArray = (its ++ its2).toArray := by simp
 rw [ea]
 exact ⟨.ref _, _, I.lnew (t' := s.toks) (r.append r2) (by rw [List.length_append]; omega), rfl, q _ I.fresh⟩
def rRep : R2 := fun x y H Q => ∃ l k xs, x = .ref l ∧ y = .int k ∧ H l = some (.lst xs) ∧ -(2 ^ 63) <= k ∧ k < 2 ^ 63 ∧ xs.length * k.toNat <= sizeLine ∧
 ∀ p, H p = none -> Q (.ref p) (upd H p (.lst (List.replicate k.toNat xs).flatten))
end
section
variable {prog : Program} {w : World} {A : Around} {E : Value -> Shared -> Prop} {s : Shared}
end
section
variable {X : Cx}
end
end L2
namespace Att
open PySem PySem.W PySem.Calls PyProof.Rows
theorem ints_of_wellAll {P : Params} {h : Heap} : ∀ (ns : List Int) (vs : List Value), WellAll P h vs (ns.map WData.int) -> IntsAre vs ns := by
 intro ns
 induction ns with
 | nil =>
  intro vs w
  rw [List.map_nil] at w
  cases w
  exact .nil
 | cons n ns ih =>
  intro vs w
  rw [List.map_cons] at w
  cases w with
  | cons a b =>
   cases a
   exact .cons _ _ (ih _ b)
theorem script_of {l : OpenLaw} {n : Nat} (hn : l.most = some n) {P : Params} {h : Heap} {args : List WData} {vals : List Value}
  (hpre : l.row.toRowW.claim.pre args = true) (hwl : WellAll P h vals args) :
  ∃ a vs ns, vals = [Value.ref a] ∧ args = [WData.list (ns.map WData.int)] ∧ h.get? a = some { cls := .type "list", data := .seq vs.toArray } ∧ IntsAre vs ns ∧ ns.length <= n := by
 have hsh : WShape.hasAll [] args [.list .int] = true := (pre_splitW hpre).1
 have hc : l.pre.holds [] { args := args } = true := (pre_splitW hpre).2
 obtain ⟨d, r, rfl, h1, h2⟩ := hasAllW_cons hsh
 obtain rfl := hasAllW_nil h2
 obtain ⟨xs, rfl, h3⟩ := hasW_list h1
 obtain ⟨ns, rfl⟩ := items_int h3
 have hlen : ns.length <= n := by
  unfold OpenLaw.pre at hc
  have h4 : (WTm.not (.lt (.lit (.int (n : Int))) (.len (.arg 0)))).holds [] { args := [.list (ns.map .int)] } = true := by
   have h4 := (holds_andW hc).1
   rw [hn] at h4
   exact h4
  have h5 := condW_of h4 (w_not (w_lt w_lit (w_len_list (w_arg rfl))))
  rw [List.length_map] at h5
  refine Nat.le_of_not_lt fun q => ?_
  have q' : (n : Int) < ((ns.length : Nat) : Int) := by omega
  first
   |(rw [decide_eq_true q'] at h5; exact absurd h5 (by decide))
   |(simp at h5; omega)
 cases hwl with
 | cons w1 w2 =>
  cases w2
  cases w1 with
  | list ho hall => exact ⟨_, _, ns, rfl, rfl, ho, ints_of_wellAll ns _ hall, hlen⟩
theorem post_true (l : OpenLaw) (args : List WData) : l.row.toRowW.claim.post args (.bool true) args = true :=
 postW_of (r := l.row.toRowW) (X := (true == true))
  (show WShape.has [] (.bool true) .bool = true by first | rfl | decide | simp [WShape.has, WShape.arms, WShape.armsAll])
  (show (WTm.eq .res (.lit (.bool true))).value [] { args := args, res := some (.bool true), after := args } = some (.bool (true == true)) from w_eq_bool (w_res rfl) w_lit) rfl
theorem attach_call {l : OpenLaw} {n : Nat} {q : Program} {loose : List Str} {XP : (Str -> Option Value) -> Heap -> Prop} {YP : World -> Heap -> Prop} {d : DefRec}
  (hn : l.most = some n) (hdf : d.params.defaults = [])
  (call : ∀ (w : World) (s₀ s₁ : Shared) (mg mb : Str -> Option Value) (fa : Addr) (o : Obj) (pm cd doc : Value) (a : Addr) (vs : List Value) (ns : List Int),
   Ground q loose [] XP w s₀ mg mb s₁.heap -> YP w s₁.heap ->
   s₁.heap.get? fa = some o -> o.data = .func (docDef d.name d.params d.body d.scope pm cd doc) -> s₁.heap.CodeRec cd d.name -> mg d.name = some (.ref fa) ->
   s₁.heap.get? a = some { cls := .type "list", data := .seq vs.toArray } -> IntsAre vs ns -> ns.length <= n -> s₁.gens = #[] ->
   codeAny (model l.prog w) callerA (.call (.ref fa) ⟨[.ref a], []⟩) (fun r s' => r = .ok (.ret (.bool true)) ∧ OldK s₁.heap s'.heap ∧ s'.os = s₁.os ∧ AllBare s'.gens) s₁) :
  WalkO q loose XP YP l.row.toRowW d [] (fun f vs => PySem.call f vs) := by
 intro w s₀ s₁ mg mb G Y fa o pm cd doc dV kV ho hd hcd hD hmg hg args vals as hpre hlay hrd hwl hlo
 obtain rfl : dV = .none := Dflts.none hD hdf
 obtain rfl : kV = .none := Dflts.noKw hD
 obtain ⟨a, vs, ns, rfl, rfl, hobj, hints, hlen⟩ := script_of hn hpre hwl
 refine enter_call (codeAny_mono (call w s₀ s₁ mg mb fa o pm cd doc a vs ns G Y ho (fd_plain hd) hcd hmg hobj hints hlen hg) fun r s' hq => ?_)
 obtain ⟨rfl, h2, h3, h4⟩ := hq
 exact ⟨.inl ⟨.bool true, .bool true, [], rfl, fun _ => rfl, .bool true, post_true l _, fun _ => ⟨List.Pairwise.nil, fun _ hm => (nomatch hm)⟩⟩, h2, h3, h4⟩
section
variable {prog : Program} {w : World} {A : Around} {E : Value -> Shared -> Prop} {s : Shared} {K : Frag}
def ledger (h : Heap) (L d : Addr) : List (Addr × Obj) := (List.range h.objs.size).filterMap fun a => if a = L ∨ a = d then none else (h.get? a).map fun o => (a, o)
end
end Att
namespace L2
open PySem PySem.Spec PyProof.Rows
theorem vals_ints : ∀ {vs : List Value} {ns : List Int}, IntsAre vs ns -> Vals (ns.map V.int) vs
 | _, _, .nil => .nil
 | _, _, .cons n t h => .cons ⟨t, rfl⟩ (vals_ints h)
def Only (H : Hp) : Prop := ∀ b, H b = none ∨ ∃ o xs, H b = some (.frz o (.lst xs))
theorem law_call {P : Program} {w : World} {K : PySem.W.Frag} {mg mb : Str -> Option Value} {CX : CXT} {k : Nat} {fa a : Addr} {fd : FuncData} {x : Str} {sp : Sp} {s₁ : Shared} {vs : List Value} {ns : List Int}
  (KX : K.In s₁.heap) (hns : s₁.heap.Ns mainGlobals mg) (hb : s₁.heap.Ns builtinsNs mb) (hbb : ∀ x : Str, x ≠ "__name__" -> mb x = bootBuiltins x) (hlim : s₁.heap.NoLimit) (hg : s₁.gens = #[])
  (ha : s₁.heap.get? a = some { cls := .type "list", data := .seq vs.toArray }) (hi : IntsAre vs ns) (hl : ns.length <= sizeLine) (hr : Room k callerA)
  (F : ∀ base : Heap, K.In base -> base.Ns mainGlobals mg -> FnOk P w K mg base CX k fa fd [x] sp) (hbind : ∀ (s : Shared) (u : Value), BindsTo s fd ⟨[u], []⟩ [(x, u)])
  (hsp : ∀ H : Hp, Only H -> SqL K H a (ns.map V.int) -> sp [.ref a] H (fun v _ => v = .bl true) fun _ _ _ => False)
  (hCX : ∀ H e s', CX [] H s₁ (fun _ _ _ => False) e s' -> False) :
  codeAny (model P w) callerA (.call (.ref fa) ⟨[.ref a], []⟩) (fun r s' => r = .ok (.ret (.bool true)) ∧ OldK s₁.heap s'.heap ∧ s'.os = s₁.os ∧ AllBare s'.gens) s₁ := by
 have rv := vals_ints hi
 have lenV := hi.length
 have core : ∀ H : Hp, Only H -> SqL K H a (ns.map V.int) -> HOk P w H s₁.heap -> (∀ b, H b ≠ none -> b = a) -> (H a ≠ none -> K.lookup a = none) ->
   codeAny (model P w) callerA (.call (.ref fa) ⟨[.ref a], []⟩) (fun r s' => r = .ok (.ret (.bool true)) ∧ OldK s₁.heap s'.heap ∧ s'.os = s₁.os ∧ AllBare s'.gens) s₁ := by
  intro H hO hS hok hA hK
  have base_of : ∀ {b : Addr} {o : Obj}, s₁.heap.get? b = some o -> H b = none -> (hidT s₁.heap H).get? b = some o := fun e n => hidT_get e n
  have noA : ∀ {b : Addr} {o : Obj} {es : Array DictEntry} {ep : Nat}, s₁.heap.get? b = some o -> o.data = .dict es ep -> H b = none := fun {b o es ep} e d => by
   cases q : H b with
   | none => rfl
   | some u =>
    have e' : b = a := hA b (by rw [q]; simp)
    subst e'
    rw [ha] at e; cases e
    have d' : Data.seq vs.toArray _ = Data.dict es ep := d
    cases d'
  have nsK : ∀ {b : Addr} {m : Str -> Option Value}, s₁.heap.Ns b m -> (hidT s₁.heap H).Ns b m := fun {b m} ⟨o, es, ep, e, d, r⟩ => ⟨o, es, ep, base_of e (noA e d), d, r⟩
  have hKb : K.In (hidT s₁.heap H) := fun b o e => base_of (KX b o e) (by
   cases q : H b with
   | none => rfl
   | some u =>
    have e' : b = a := hA b (by rw [q]; simp)
    subst e'
    rw [hK (by rw [q]; simp)] at e; cases e)
  have hM : Mod K mg (hidT s₁.heap H) := ⟨hKb, nsK hns, ⟨mb, nsK hb, hbb⟩, let ⟨mc, h1, h2⟩ := hlim; ⟨mc, nsK h1, h2⟩⟩
  have e0 : Env0 P w K mg (hidT s₁.heap H) callerA [] s₁ H := ⟨rfl, hM, fun b o e => of_hidT e, Nat.le_of_eq (hidT_size _ _), trivial, fun b hb => absurd (show b ∈ ([] : List Addr) from hb) (by simp), hok, .of_eq hg⟩
  refine codeAny_mono ((F _ hKb (nsK hns)).run callerA [] s₁ H ⟨[.ref a], []⟩ [.ref a] [.ref a] _ _ hr e0 (hbind s₁ (.ref a)) (.cons rfl .nil) (hsp H hO hS)) fun r s' h => ?_
  cases r with
  | error e => exact (hCX H e s' h).elim
  | ok fl =>
   cases fl with
   | next => exact False.elim h
   | brk => exact False.elim h
   | cont => exact False.elim h
   | ret u =>
    obtain ⟨v, H', os, bare, un, hok', r', q⟩ := h
    have q' : v = .bl true := q
    subst q'
    obtain rfl : u = Value.bool true := r'
    refine ⟨rfl, OldK.of_keep fun b o e => ?_, os, bare⟩
    cases q : H b with
    | none => exact un.keep b o e q (by intro z; exact absurd (show b ∈ ([] : List Addr) from z) (by simp)) (by simp)
    | some u =>
     rcases hO b with z | ⟨ob, xs, z⟩
     ·rw [q] at z; cases z
     ·have z2 := un.frzs b ob _ z
      obtain ⟨e1, _⟩ := hok b _ z
      obtain ⟨e2, _⟩ := hok' b _ z2
      rw [e] at e1; cases e1
      exact e2
 cases hk : K.lookup a with
 | some o =>
  have e := KX a o hk
  rw [ha] at e
  cases e
  refine core (fun _ => none) (fun _ => .inl rfl) (.inr ⟨_, vs.toArray, _, hk, rfl, rfl, rfl, by rw [List.size_toArray, lenV]; exact hl, by simpa using rv⟩) (fun b u z => by have z' : (none : Option HO) = some u := z; cases z') (fun b z => absurd rfl z) fun z => absurd rfl z
 | none =>
  refine core (fun b => if b = a then some (.frz { cls := .type "list", data := .seq vs.toArray } (.lst (ns.map V.int))) else none) (fun b => ?_) (.inl (.inr ⟨{ cls := .type "list", data := .seq vs.toArray }, if_pos rfl⟩)) (fun b u z => ?_) (fun b z => ?_) fun _ => hk
  ·by_cases hb : b = a
   ·exact .inr ⟨_, _, if_pos hb⟩
   ·exact .inl (if_neg hb)
  ·by_cases hb : b = a
   ·have z' := (if_pos hb).symm.trans z
    cases z'
    subst hb
    exact ⟨ha, by rw [List.length_map]; exact hl, vs, _, rv, ha⟩
   ·have z' := (if_neg hb).symm.trans z
    cases z'
  ·by_cases hb : b = a
   ·exact hb
   ·exact absurd (if_neg hb) z
end L2
namespace L2
open PySem PySem.Spec PyProof.Rows
theorem walk_of {l : PySem.W.OpenLaw} {n k : Nat} {q : Program} {loose : List Str} {XP : (Str -> Option Value) -> Heap -> Prop} {YP : World -> Heap -> Prop} {d : DefRec} {K : Params -> PySem.W.Frag} {CX : World -> CXT} {sp : World -> Sp} {x : Str}
  (hn : l.most = some n) (hn2 : n <= sizeLine) (hdf : d.params.defaults = []) (hr : Room k callerA)
  (hY : ∀ (w : World) (h : Heap), YP w h -> (K w.params).In h)
  (F : ∀ (w : World) (mg : Str -> Option Value) (fa : Addr) (h : Heap), (K w.params).In h -> h.Ns mainGlobals mg -> mg d.name = some (.ref fa) ->
   ∃ fd : FuncData, (∀ (s : Shared) (u : Value), BindsTo s fd ⟨[u], []⟩ [(x, u)]) ∧
    ∀ base : Heap, (K w.params).In base -> base.Ns mainGlobals mg -> FnOk l.prog w (K w.params) mg base (CX w) k fa fd [x] (sp w))
  (hsp : ∀ (w : World) (H : Hp) (a : Addr) (ns : List Int), ns.length <= n -> Only H -> SqL (K w.params) H a (ns.map V.int) -> sp w [.ref a] H (fun v _ => v = .bl true) fun _ _ _ => False)
  (hCX : ∀ (w : World) (H : Hp) (s : Shared) (e : Value) (s' : Shared), CX w [] H s (fun _ _ _ => False) e s' -> False) :
  PySem.W.WalkO q loose XP YP l.row.toRowW d [] (fun f vs => PySem.call f vs) := by
 refine Att.attach_call hn hdf fun w s₀ s₁ mg mb fa o pm cd doc a vs ns G Y ho hd hcd hmg hobj hints hlen hg => ?_
 have KX := hY w _ Y
 obtain ⟨fd, hb, hF⟩ := F w mg fa _ KX G.T.g hmg
 exact law_call KX G.T.g G.T.b G.T.builtins G.T.nolimit hg hobj hints (Nat.le_trans hlen hn2) hr hF hb (fun H hO hS => hsp w H a ns hlen hO hS) fun H e s' => hCX w H s₁ e s'
end L2
namespace L2
open PySem PySem.Spec PyProof.Rows
def defArgs (s : Stmt) : Arguments := match s with
 | .FunctionDef _ a _ _ _ _ _ _ _ _ => a
 | _ => { posonlyargs := [], args := [], vararg := none, kwonlyargs := [], kw_defaults := [], kwarg := none, defaults := [] }
def defBody (s : Stmt) : List Stmt := match s with
 | .FunctionDef _ _ b _ _ _ _ _ _ _ => b
 | _ => []
def defScope (s : Stmt) : Scope := match s with
 | .FunctionDef _ _ _ _ _ _ sc _ _ _ => sc
 | _ => { kind := .function, names := [], isGenerator := false, isCoroutine := false }
abbrev CX0 : CXT := fun _ _ _ _ _ _ => False
abbrev E0 : XK := fun _ _ _ => False
theorem pass0 {X : Cx} : Passes CX0 X E0 := fun _ _ _ _ _ _ _ h => h.elim
structure Fun (K : PySem.W.Frag) (x qual : Str) (st : Stmt) (f : Addr) (fd : FuncData) : Prop where
 ex : ∃ (oc : Value) (od : Option Addr) (kV doc pm : Value) (an : Option Addr) (cdv ct : Value) (osl : Array (Option Value)),
  fd = PySem.W.fnOf x qual (defArgs st) (defBody st) (defScope st) .none kV doc pm an cdv ct ∧ K.lookup f = some ⟨oc, od, .func fd, osl⟩ ∧ PySem.W.codeIn K cdv qual = true
 kp : PySem.W.keepIn K (.ref f) = true
section
variable {P : Program} {w : World} {K : PySem.W.Frag} {mg : Str -> Option Value} {base : Heap}
theorem Fun.ok {x qual : Str} {st : Stmt} {f : Addr} {fd : FuncData} {N ps : List Str} {k : Nat} {sp : Sp} (F : Fun K x qual st f fd) (S : FnScope N ps (defScope st)) (len : ∀ vs H Q E, sp vs H Q E -> vs.length = ps.length)
  (hbody : ∀ (cdv : Value) (A : Around) (outer : List Env) (s : Shared) (H : Hp) (vs : List V) (Q : VK) (E : XK), Room k (A.deeper (envOfC qual (defScope st) s.heap.objs.size f cdv)) -> sp vs H Q E ->
   ∃ t, PSs (cxOf CX0 P w K mg base N qual (defScope st) f cdv A outer s H E).nox (defBody st) t ∧ t { nx := fun _ H' => Q .non H', rt := Q } (start N vs) H) : FnOk P w K mg base CX0 (k + 1) f fd ps sp := by
 obtain ⟨oc, od, kV, doc, pm, an, cdv, ct, osl, rfl, lk, hcd⟩ := F.ex
 refine fn_of lk hcd S len fun A outer s H vs Q E hr hsp => ?_
 obtain ⟨t, h, q⟩ := hbody cdv A outer s H vs Q E hr hsp
 exact ⟨t, h.nox, q⟩
theorem Fun.binds {x qual : Str} {st : Stmt} {f : Addr} {fd : FuncData} {ps : List Str} (F : Fun K x qual st f fd)
  (h : ∀ (kV doc pm : Value) (an : Option Addr) (cdv ct : Value) (us : List Value), us.length = ps.length -> bindArgs (PySem.W.fnOf x qual (defArgs st) (defBody st) (defScope st) .none kV doc pm an cdv ct) ⟨us, []⟩ = pure (ps.zip us)) : Binds K fd ps [] := by
 obtain ⟨oc, od, kV, doc, pm, an, cdv, ct, osl, rfl, lk, hcd⟩ := F.ex
 exact .all (h kV doc pm an cdv ct)
theorem fun_mk {x qual : Str} {st : Stmt} {f : Addr} {oc : Value} {od an : Option Addr} {osl : Array (Option Value)} {kV doc pm cdv ct : Value} (l : K.lookup f = some ⟨oc, od, .func (PySem.W.fnOf x qual (defArgs st) (defBody st) (defScope st) .none kV doc pm an cdv ct), osl⟩)
  (c : PySem.W.codeIn K cdv qual = true) (k : PySem.W.keepIn K (.ref f) = true) : Fun K x qual st f (PySem.W.fnOf x qual (defArgs st) (defBody st) (defScope st) .none kV doc pm an cdv ct) := ⟨⟨oc, od, kV, doc, pm, an, cdv, ct, osl, rfl, l, c⟩, k⟩
end
theorem small1000 {n : Nat} (h : n <= 1000) : n < sizeLine := Nat.lt_of_le_of_lt h (by decide)
section
variable {X : Cx}
theorem pv (i : Nat) {x : Str} {pos : Pos} (hN : X.N[i]? = some x := by rfl) (hv : Vis X.env.scope x := by first | exact Or.inl rfl | exact Or.inr (Or.inl rfl) | exact Or.inr (Or.inr rfl)) (hd : (x == ("__debug__" : Str)) = false := by decide)
  (hcd : (x == ("__classdict__" : Str)) = false := by decide) : PE X (.Name x pos) (tVar i) := pe_var hN hv hd hcd
end
theorem ite2 {c A B : Prop} [Decidable c] (h1 : c -> A) (h2 : ¬ c -> B) : if c then A else B := by
 by_cases h : c
 ·rw [if_pos h]
  exact h1 h
 ·rw [if_neg h]
  exact h2 h
def Same (H H' : Hp) : Prop := ∀ b o, H b = some o -> H' b = some o
theorem Same.refl (H : Hp) : Same H H := fun _ _ h => h
theorem Same.trans {H H1 H2 : Hp} (a : Same H H1) (b : Same H1 H2) : Same H H2 := fun c o h => b c o (a c o h)
theorem Same.free {H H' : Hp} (e : Same H H') {l : Addr} (h : H' l = Option.none) : H l = Option.none := by
 cases q : H l with
 | none => rfl
 | some o =>
  rw [e l o q] at h
  cases h
theorem Same.seq {K : PySem.W.Frag} {H H' : Hp} {a : Addr} {xs : List V} (e : Same H H') (h : SqL K H a xs) : SqL K H' a xs := by
 rcases h with (h | ⟨o, h⟩) | h
 ·exact .inl (.inl (e _ _ h))
 ·exact .inl (.inr ⟨o, e _ _ h⟩)
 ·exact .inr h
end L2
namespace L2
open PySem PySem.Spec PyProof.Rows
@[reducible] def blk (X : Cx) (x : Str) (fv : List (Nat × Str)) (scope : Scope) (cl : List (Str × Addr)) (C : Addr) (s : Shared) (H : Hp) (fp : List Addr) : Cx where
 prog := X.prog
 w := X.w
 K := X.K
 mg := X.mg
 base := X.base
 A := X.A
 N := x :: fv.map (·.2)
 s₀ := s
 H₀ := H
 env := compEnvC scope cl C X.env
 outer := X.stack
 stack := X.stack
 ex := fp
 fn := fun _ => false
 calm := X.calm
 pn := []
 xe := fun _ _ => False
def bst (fv : List (Nat × Str)) (σ : St) (v : Option V) : St := v :: fv.map fun p => (σ[p.1]?).getD none
structure BlkOk (X : Cx) (x : Str) (fv : List (Nat × Str)) (scope : Scope) (cl : List (Str × Addr)) : Prop where
 clos : closureFor scope X.env = pure cl
 nocell : ∀ y ∈ scope.names, y.2 ≠ .cell
 kind : scope.kind = .function
 names : ∀ y ∈ scope.names, y.2 = .local -> scope.names.lookup y.1 = some .local
 here : scope.names.lookup x = some .local
 sub : ∀ y c, cl.lookup y = some c -> X.env.cells.lookup y = some c
 has : ∀ y, ((relabel scope X.env).names.lookup y = some .cell ∨ (relabel scope X.env).names.lookup y = some .free) -> ∃ c, cl.lookup y = some c
 fvs : ∀ p ∈ fv, p.2 ≠ x ∧ X.N[p.1]? = some p.2 ∧ (X.env.scope.names.lookup p.2 = some .cell ∨ X.env.scope.names.lookup p.2 = some .free) ∧
  ((relabel scope X.env).names.lookup p.2 = some .cell ∨ (relabel scope X.env).names.lookup p.2 = some .free) ∧ ∃ c, cl.lookup p.2 = some c
theorem compLoop_one {prog : Program} {w : World} {A : Around} {R : Result -> Shared -> Prop} {s : Shared} {elt target iter : Expr} {scope : Scope} {pos : Pos} {it acc : Value} {env : Env} (I : Nat -> Shared -> Prop)
  (turn : ∀ n s (E : Value -> Shared -> Prop), I n s -> wpAny (model prog w) A (pyNext it) (fun r s₁ => match r with
   | none => R (.ok .next) s₁
   | some v => wpAny (model prog w) A (letOwnedTupleGo target it v) (fun _ s₂ => wpAny (model prog w) A (assign target env v) (fun _ s₃ => wpAny (model prog w) A (eval elt env) (fun x s₄ =>
     wpAny (model prog w) A (call (.builtin "list.append") [acc, x]) (fun _ s₅ => ∃ m, m < n ∧ I m s₅) E s₄) E s₃) E s₂) E s₁) E s)
  (n : Nat) (h : I n s) :
  codeAny (model prog w) A (.compLoop (.ListComp elt [⟨target, iter, [], 0⟩] scope pos) 0 it acc env) R s := by
 refine codeAny_loop rfl I (fun n s hI => ?_) n h
 show wpAny _ _ ((compTurn (.ListComp elt [⟨target, iter, [], 0⟩] scope pos) 0 it acc env).onRaise (fun x => do noteFrame x env; theTreesLotGoes x)) _ _ s
 refine wpAny_noted ?_
 rw [PySem.compTurn_list1]
 refine wpAny_bind (wpAny_standAt (wpAny_bind (wpAny_mono (turn n s _ hI) (fun r s₁ h₁ => ?_) fun _ _ h' => h')))
 cases r with
 | none => exact wpAny_pure h₁
 | some v =>
  exact wpAny_bind (thn h₁ fun _ s₂ h₂ => wpAny_bind (thn h₂ fun _ s₃ h₃ => wpAny_bind (wpAny_bind (thn h₃ fun x s₄ h₄ => wpAny_bind (thn h₄ fun _ s₅ h₅ => wpAny_pure (wpAny_pure ⟨rfl, h₅⟩))))))
section
variable {X : Cx} {elt iter : Expr} {x : Str} {px : Pos} {fv : List (Nat × Str)} {scope : Scope} {cl : List (Str × Addr)} {pos : Pos} {te : TE} {wi : TI}
def tComp (fv : List (Nat × Str)) (wi : TI) (te : TE) : TE := fun σ H Q => wi σ H fun J H1 => ∀ D, H1 D = none -> ∃ W : Nat -> Nat -> Hp -> Prop, (∃ m, W 0 m (upd H1 D (.lst []))) ∧ ∀ i m H, W i m H ->
 (J.stop i H ∧ Q (.ref D) H) ∨ (J.go i H ∧ ∃ N : Hp -> Prop, (∀ H', N H' -> ∃ m', m' < m ∧ W (i + 1) m' H') ∧ ∀ v H', J.yld i H v H' -> te (bst fv σ (some v)) H' fun y H2 => ∃ ys, H2 D = some (.lst ys) ∧ ys.length < sizeLine ∧ N (upd H2 D (.lst (ys ++ [y]))))
theorem blk_ok {pins : List (Addr × Obj)} {σ : St} {H : Hp} {s : Shared} {fp : List Addr} {C : Addr} (B : BlkOk X x fv scope cl) (I : Inv X pins σ H s) (hf : ∀ b ∈ fp, FpOk X pins H b) (hC : s.heap.objs.size <= C) (hfC : ∀ b ∈ fp, b ≠ C) :
  (blk X x fv scope cl C s H fp).Ok where
 mod := I.ok.mod
 kind := B.kind
 glob := I.ok.glob
 blt := I.ok.blt
 above := hC
 inj := fun y z c h1 h2 => I.ok.inj y z c (B.sub y c h1) (B.sub z c h2)
 has := fun y hy => B.has y hy
 cab := fun y c h => nomatch h
 hd := I.ok.hd
 frames := I.ok.frames
 stk := .inl rfl
 exf := fun b hb => ⟨hfC b hb, fun y c e => (hf b hb).2.2.2.2.1 y c (B.sub y c e)⟩
 bs := I.bs
 bsz := Nat.le_trans I.ok.bsz I.sz
 noex := fun b o e hb => by
  obtain ⟨_, _, _, f3, _⟩ := hf b hb
  rcases f3 with z | z
  ·exact I.ok.noex b o e z
  ·exact absurd (Nat.lt_of_lt_of_le (Heap.lt_size e) (Nat.le_trans I.ok.bsz z)) (Nat.lt_irrefl _)
 exfs := fun b hb hs => by
  obtain ⟨_, f1, f2, _⟩ := hf b hb
  rcases List.mem_cons.mp (I.stkSub b hs) with z | z
  ·exact f1 z
  ·exact f2 z
 funs := I.stack
 frf := I.stkFree
theorem bst_get {fv : List (Nat × Str)} {σ : St} {o : Option V} {j : Nat} {y : Str} {v : V} (h1 : (x :: fv.map (·.2))[j + 1]? = some y) (h2 : (bst fv σ o)[j + 1]? = some (some v)) : ∃ p ∈ fv, p.2 = y ∧ σ[p.1]? = some (some v) := by
 have e1 : (fv.map (·.2))[j]? = some y := by simpa using h1
 have e2 : (fv.map fun p => (σ[p.1]?).getD none)[j]? = some (some v) := by simpa [bst] using h2
 rw [List.getElem?_map] at e1 e2
 cases q : fv[j]? with
 | none => rw [q] at e1; cases e1
 | some p =>
  rw [q] at e1 e2
  refine ⟨p, List.mem_of_getElem? q, Option.some.inj e1, ?_⟩
  have e3 : (σ[p.1]?).getD none = some v := Option.some.inj e2
  cases r : σ[p.1]? with
  | none => rw [r] at e3; cases e3
  | some w => rw [r] at e3; exact congrArg some e3
theorem blk_start {pins : List (Addr × Obj)} {σ : St} {H : Hp} {s s4 : Shared} {fp : List Addr} {C : Addr} {m : Str -> Option Value} (B : BlkOk X x fv scope cl) (I : Inv X pins σ H s) (hf : ∀ b ∈ fp, FpOk X pins H b) (hC : C = s.heap.objs.size)
  (hfC : ∀ b ∈ fp, b ≠ C) (os : s4.os = s.os) (gens : s4.gens = s.gens) (keep : ∀ b o, s.heap.get? b = some o -> s4.heap.get? b = some o) (ns : s4.heap.Ns C m) :
  Inv (blk X x fv scope cl C s H fp) [] (bst fv σ none) H s4 := by
 subst hC
 refine ⟨blk_ok B I hf (Nat.le_refl _) hfC, os, by rw [gens]; exact I.bare, Un.kept keep, ⟨m, ns, fun i y v h1 h2 h3 => ?_⟩, fun y c e => ?_, I.hok.fresh (Nat.le_refl _), fun y c e => I.freeC y c (B.sub y c e), fun p hp => absurd (show p ∈ ([] : List (Addr × Obj)) from hp) (by simp), I.hok.kept keep, by simp [bst]⟩
 ·cases i with
  | zero => simp [bst] at h2
  | succ j =>
   obtain ⟨p, hp, rfl, hv⟩ := bst_get h1 h2
   obtain ⟨_, hN, hk, hk2, c, hc⟩ := B.fvs p hp
   obtain ⟨m0, _, hl⟩ := I.loc
   have vis : Vis X.env.scope p.2 := hk.elim (fun z => .inr (.inl z)) fun z => .inr (.inr z)
   obtain ⟨u, r, l⟩ := hl p.1 p.2 v hN hv vis
   refine ⟨u, r, .inr ⟨hk2, c, hc, ?_⟩⟩
   rcases l with ⟨z, _⟩ | ⟨_, c', hc', o, ho, hd⟩
   ·have z' : X.env.scope.names.lookup p.2 = some .local := z
    rcases hk with k | k <;> (rw [k] at z'; cases z')
   ·have := B.sub p.2 c hc
    rw [hc'] at this; cases this
    exact ⟨o, keep _ o ho, hd⟩
 ·obtain ⟨v, o, ho, hd⟩ := I.cell y c (B.sub y c e)
  exact ⟨v, o, keep c o ho, hd⟩
theorem blk_store {pins' : List (Addr × Obj)} {σ : St} {H H0 : Hp} {s s5 : Shared} {fp : List Addr} {C : Addr} {o : Option V} {v : V} {u : Value} {E : Value -> Shared -> Prop} {Q : Unit -> Shared -> Prop} (B : BlkOk X x fv scope cl)
  (I : Inv (blk X x fv scope cl C s H0 fp) pins' (bst fv σ o) H s5) (r : RelV v u) (h : ∀ s6, Inv (blk X x fv scope cl C s H0 fp) pins' (bst fv σ (some v)) H s6 -> Q () s6) :
  wpAny (model X.prog X.w) X.A (assign (.Name x px) (compEnvC scope cl C X.env) u) Q E s5 := by
 obtain ⟨m, hn, hl⟩ := id I.loc
 have hk : (relabel scope X.env).names.lookup x = some .local := lookup_relabel_local B.here
 have hcls : ((compEnvC scope cl C X.env).scope.kind == .class || ((compEnvC scope cl C X.env).scope.kind == .module && (compEnvC scope cl C X.env).locals != (compEnvC scope cl C X.env).globals)) = false := by
  have : (compEnvC scope cl C X.env).scope.kind = .function := B.kind
  rw [this]; rfl
 refine wpAny_assign_Name (wpAny_storeName_local hk hn (fun h' hn' hs => ?_) hcls)
 have cne := I.cne
 obtain ⟨oL, _, _, hoL, _⟩ := id hn
 have tracked : HOk X.prog X.w H h' := fun b ob e => by
  refine (I.hok b ob e).stay (fun c w' hc q => (hs.2 c ?_).trans q) (fun _ q => q) fun _ _ q => q
  intro z
  have z' : c = C := z
  have fr : H C = none := I.free
  rcases hc with hc | hc
  ·rw [← hc, z', fr] at e; cases e
  ·rw [z', fr] at hc; cases hc
 refine h _ ⟨I.ok, I.os, I.bare, ⟨fun b o e n hb hx => ?_, fun b o e n hb hx => ?_, I.base.free, fun b o e hx => ?_, I.base.tups, I.base.frzs, I.base.tbls⟩, ⟨_, hn', fun j y v' e1 e2 e3 => ?_⟩, fun y c e => ?_, I.free, I.freeC, fun p hp => ?_, tracked, by simp [bst]⟩
 ·exact (hs.2 b (Nat.ne_of_lt (Nat.lt_of_lt_of_le (Heap.lt_size e) I.ok.above))).trans (I.base.keep b o e n hb hx)
 ·obtain ⟨sl, e1⟩ := I.base.slot b o e n hb hx
  exact ⟨sl, (hs.2 b (Nat.ne_of_lt (Nat.lt_of_lt_of_le (Heap.lt_size e) I.ok.above))).trans e1⟩
 ·obtain ⟨o', e1⟩ := I.base.there b o e hx
  exact ⟨o', (hs.2 b (Nat.ne_of_lt (Nat.lt_of_lt_of_le (Heap.lt_size e) I.ok.above))).trans e1⟩
 ·cases j with
  | zero =>
   have e1' : x = y := by simpa using e1
   subst e1'
   have e2' : v = v' := by simpa [bst] using e2
   subst e2'
   exact ⟨u, r, .inl ⟨hk, by simp⟩⟩
  | succ j =>
   have e2' : (bst fv σ o)[j + 1]? = some (some v') := by simpa [bst] using e2
   obtain ⟨u', r', q⟩ := hl (j + 1) y v' e1 e2' e3
   refine ⟨u', r', ?_⟩
   obtain ⟨p, hp, rfl, _⟩ := bst_get e1 e2
   rcases q with ⟨k, e⟩ | ⟨k, c, e, z⟩
   ·exact .inl ⟨k, by simp [(B.fvs p hp).1, e]⟩
   ·exact .inr ⟨k, c, e, z.sameBut hs (cne _ c e)⟩
 ·obtain ⟨w', z⟩ := I.cell y c e
  exact ⟨w', z.sameBut hs (cne y c e)⟩
 ·obtain ⟨e, n, ne, nf, d⟩ := I.pin p hp
  exact ⟨(hs.2 p.1 ne).trans e, n, ne, nf, d⟩
theorem blk_run {pins : List (Addr × Obj)} {σ : St} {H : Hp} {s2 : Shared} {it : Addr} {fp : List Addr} {tn : Nat -> Heap -> Prop} {J : It} {Q : VK} {E : Value -> Shared -> Prop} {RR : Value -> Addr -> Result -> Shared -> Prop}
  (hc : X.calm = true) (B : BlkOk X x fv scope cl) (he : ∀ C s H fp, PE (blk X x fv scope cl C s H fp) elt te) (I : Inv X pins σ H s2) (T : Turn X.prog X.w X.K (.Name x px) J fp it tn) (st : tn 0 s2.heap) (hf : ∀ b ∈ fp, FpOk X pins H b)
  (rd : ∀ D, H D = none -> ∃ W : Nat -> Nat -> Hp -> Prop, (∃ m, W 0 m (upd H D (.lst []))) ∧ ∀ i m H, W i m H ->
   (J.stop i H ∧ Q (.ref D) H) ∨ (J.go i H ∧ ∃ N : Hp -> Prop, (∀ H', N H' -> ∃ m', m' < m ∧ W (i + 1) m' H') ∧ ∀ v H', J.yld i H v H' -> te (bst fv σ (some v)) H' fun y H2 => ∃ ys, H2 D = some (.lst ys) ∧ ys.length < sizeLine ∧ N (upd H2 D (.lst (ys ++ [y])))))
  (hRR : ∀ D C s' H' m', Inv X pins σ H' s' -> FpOk X pins H' C -> s'.heap.Ns C m' -> Q (.ref D) H' -> RR (.ref D) C (.ok .next) s') :
  wpAny (model X.prog X.w) X.A (newList []) (fun acc s₃ => wpAny (model X.prog X.w) X.A (newFunctionEnv scope X.env.globals cl [] X.env.qual none .none (some X.env)) (fun cenv s₄ =>
   codeAny (model X.prog X.w) X.A (.compStart (.ListComp elt [⟨.Name x px, iter, [], 0⟩] scope pos) 0 (.ref it) acc { cenv with scope := relabel scope X.env }) (RR acc cenv.locals) s₄) E s₃) E s2 := by
 refine wpAny_newObj_type ?_ (by show 0 <= sizeLine; exact Nat.zero_le _)
 have hD : H s2.heap.objs.size = none := I.hok.fresh (Nat.le_refl _)
 have I3 := I.lnew (ys := []) (its := []) (t' := s2.toks) .nil (Nat.zero_le _)
 generalize hs3 : ({ s2 with heap := s2.heap.push { cls := .type "list", data := .seq ([] : List Value).toArray }, toks := s2.toks } : Shared) = s3 at I3
 have sz3 : s3.heap.objs.size = s2.heap.objs.size + 1 := by rw [← hs3]; exact Heap.size_push ..
 have up3 : ∀ b o, s2.heap.get? b = some o -> s3.heap.get? b = some o := fun b o e => by rw [← hs3]; exact Heap.get?_push_of_some _ e
 have hf3 : ∀ b ∈ fp, FpOk X pins (upd H s2.heap.objs.size (.lst [])) b := fun b hb => by
  obtain ⟨f0, r⟩ := hf b hb
  refine ⟨?_, r⟩
  obtain ⟨o, e, _⟩ := T.obj 0 _ st b hb
  rw [upd_ne (Nat.ne_of_lt (Heap.lt_size e))]; exact f0
 have ltf : ∀ b ∈ fp, b < s2.heap.objs.size := fun b hb => by
  obtain ⟨o, e, _⟩ := T.obj 0 _ st b hb
  exact Heap.lt_size e
 have st3 : tn 0 s3.heap := T.keep 0 _ _ st fun b _ o e => up3 b o e
 obtain ⟨W, ⟨m0, w0⟩, turn⟩ := rd _ hD
 refine wpAny_newFunctionEnv B.nocell (by intro y hy; simp at hy) (fun h₁ hns₁ hsb₁ => ?_) B.kind
 have hfC : ∀ b ∈ fp, b ≠ s3.heap.objs.size := fun b hb => Nat.ne_of_lt (by rw [sz3]; exact Nat.lt_succ_of_lt (ltf b hb))
 have up4 : ∀ b o, s3.heap.get? b = some o -> h₁.get? b = some o := fun b o e => hsb₁.extBut b o (Nat.ne_of_lt (Heap.lt_size e)) (Heap.get?_push_of_some _ e)
 generalize hs4 : ({ s3 with heap := h₁, toks := s3.toks + ([] : List (Str × Value)).length } : Shared) = s4
 have h4 : s4.heap = h₁ := by rw [← hs4]
 have I4 : Inv (blk X x fv scope cl s3.heap.objs.size s3 (upd H s2.heap.objs.size (.lst [])) fp) [] (bst fv σ none) (upd H s2.heap.objs.size (.lst [])) s4 :=
  blk_start B I3 hf3 rfl hfC (by rw [← hs4]) (by rw [← hs4]) (fun b o e => by rw [h4]; exact up4 b o e) (by rw [h4]; exact hns₁)
 have st4 : tn 0 s4.heap := by rw [h4]; exact T.keep 0 _ _ st3 fun b _ o e => up4 b o e
 have stat : ∀ {H' : Hp}, (∀ b ∈ fp, H' b = none) -> ∀ b ∈ fp, FpOk (blk X x fv scope cl s3.heap.objs.size s3 (upd H s2.heap.objs.size (.lst [])) fp) [] H' b := fun {H'} hn b hb => by
  obtain ⟨_, f1, f2, f3, f4, f5⟩ := hf b hb
  refine ⟨hn b hb, hfC b hb, fun z => ?_, .inl hb, fun y c e => f4 y c (B.sub y c e), fun p hp => absurd (show p ∈ ([] : List (Addr × Obj)) from hp) (by simp)⟩
  rcases List.mem_cons.mp (I.stkSub b z) with q | q
  ·exact f1 q
  ·exact f2 q
 have loop : codeAny (model X.prog X.w) X.A (.compLoop (.ListComp elt [⟨.Name x px, iter, [], 0⟩] scope pos) 0 (.ref it) (.ref s2.heap.objs.size) (compEnvC scope cl s3.heap.objs.size X.env)) (RR (.ref s2.heap.objs.size) s3.heap.objs.size) s4 := by
  refine compLoop_one (fun n s' => ∃ i H' o, Inv (blk X x fv scope cl s3.heap.objs.size s3 (upd H s2.heap.objs.size (.lst [])) fp) [] (bst fv σ o) H' s' ∧ tn i s'.heap ∧ (∀ b ∈ fp, H' b = none) ∧ W i n H') ?_ m0
   ⟨0, _, none, I4, st4, fun b hb => (hf3 b hb).1, w0⟩
  rintro n s5 E' ⟨i, H5, o5, I5, st5, fr5, w5⟩
  rcases turn i n H5 w5 with ⟨stop, q⟩ | ⟨go, N, hN, step⟩
  ·refine thn (T.done (blk X x fv scope cl s3.heap.objs.size s3 (upd H s2.heap.objs.size (.lst [])) fp) rfl rfl rfl hc i [] s5 _ H5 _ I5 (stat fr5) st5 stop) fun r s6 ⟨hr, I6⟩ => ?_
   subst hr
   obtain ⟨m6, hn6, _⟩ := I6.loc
   have un : Un (frs X.stack) fp H H5 s2.heap s6.heap := by
    have u1 : Un (frs X.stack) fp H (upd H s2.heap.objs.size (.lst [])) s2.heap s3.heap := Un.laid up3 (Nat.le_refl _) hD
    exact u1.trans I6.base
   have J6 : Inv X pins σ H5 s6 := by
    refine I.call' ?_ un I6.hok I6.bare fun b hb => ?_
    ·have := I6.os
     rw [show (blk X x fv scope cl s3.heap.objs.size s3 (upd H s2.heap.objs.size (.lst [])) fp).s₀.os = s2.os by rw [← hs3]] at this
     exact this
    ·obtain ⟨_, f1, f2, f3, f4, f5⟩ := hf b hb
     exact ⟨f3, f1, f4, f5⟩
   refine hRR _ _ s6 H5 m6 J6 ?_ hn6 q
   exact I3.fpOk (Nat.le_refl _) I6.free
  ·refine thn (T.item (blk X x fv scope cl s3.heap.objs.size s3 (upd H s2.heap.objs.size (.lst [])) fp) rfl rfl rfl hc i [] s5 _ H5 _ I5 (stat fr5) st5 go) fun r s6 ⟨u, hr, h6⟩ => ?_
   subst hr
   refine thn h6 fun _ s7 ⟨v, H7, I7, r7, y7, st7, fr7⟩ => ?_
   have I7' := I7.pinned (stat fr7) (T.obj _ _ st7)
   refine blk_store B I7' r7 fun s8 I8 => ?_
   have e8 := he _ _ _ _ _ s8 _ H7 _ I8 (step v H7 y7)
   refine wpAny_mono e8 (fun y s9 ⟨yv, H9, I9, r9, ys, hD9, hz, n9⟩ => ?_) fun _ _ z => False.elim z
   have a9 := mt_append (X := blk X x fv scope cl s3.heap.objs.size s3 (upd H s2.heap.objs.size (.lst [])) fp) _ s9 _ H9 (.ref s2.heap.objs.size) [yv] (.ref s2.heap.objs.size) [y] (fun _ H10 => H10 = upd H9 s2.heap.objs.size (.lst (ys ++ [yv]))) I9 rfl (.cons r9 .nil)
    ⟨_, ys, yv, rfl, rfl, hD9, hz, rfl⟩
   refine wpAny_mono a9 (fun _ s10 ⟨_, H10, I10, _, e10⟩ => ?_) fun _ _ z => False.elim z
   subst e10
   obtain ⟨m', hm, w9⟩ := hN _ n9
   refine ⟨m', hm, i + 1, _, some v, I10.unpinned, T.keep _ _ _ st7 fun b hb o e => (I10.pin (b, o) (List.mem_append_right _ (List.mem_append_right _ (mem_pinsAt hb e)))).1, fun b hb => ?_, w9⟩
   obtain ⟨o, e, _⟩ := T.obj _ _ st7 b hb
   exact (I10.pin (b, o) (List.mem_append_right _ (List.mem_append_right _ (mem_pinsAt hb e)))).2.1
 exact codeAny_compStart_list loop (T.self _ 0 _ _ _ st4 loop)
end
end L2
namespace L2
open PySem PySem.Spec PyProof.Rows
section
variable {X : Cx} {elt iter : Expr} {x : Str} {px : Pos} {fv : List (Nat × Str)} {scope : Scope} {cl : List (Str × Addr)} {pos : Pos} {te : TE} {wi : TI}
theorem pe_lcomp (hc : X.calm = true) (B : BlkOk X x fv scope cl) (hi : PI X (.Name x px) iter wi) (he : ∀ C s H fp, PE (blk X x fv scope cl C s H fp) elt te)
  (hs : ∀ v, foldedSetIterable iter X.env v = pure v := by intro _; rfl) : PE X (.ListComp elt [⟨.Name x px, iter, [], 0⟩] scope pos) (tComp fv wi te) := by
 intro pins s σ H Q I h
 rw [eval_ListComp]
 refine wpAny_comprehension_free (use := none) rfl hs B.clos B.kind B.names (thn (hi pins s σ H _ I h) fun v s1 h1 => thn h1 fun itv s2 h2 => ?_)
 obtain ⟨it, fp, tn, J, H2, e, I2, T, st2, f2, rd⟩ := h2
 subst e
 refine blk_run (RR := fun acc C => compPost (model X.prog X.w) X.A X.xe none (EP X pins σ Q) acc C) hc B he I2 T st2 f2 rd ?_
 intro D C s' H' m' I' fC hn q
 exact ⟨m', hn, fun h' sb => ⟨.ref D, H', I'.turned (t' := s'.toks) (fun b o hb e => (sb.2 b hb).trans e) fC.1 fC.2.1 fC.2.2.2.1 fC.2.2.2.2.1 fC.2.2.2.2.2, rfl, q⟩⟩
end
def Itrs (lo c : Int) (n : Nat) : It := ⟨fun i _ => i < n, fun i H x H' => H' = H ∧ x = .int (lo + i * c), fun i _ => n <= i⟩
section
variable {X : Cx} {tg : Expr}
def iRng3 (ta : TA) : TI := fun σ H R => ta σ H fun vs H1 => ∃ (i j k : Int) (n : Nat), vs = [.int i, .int j, .int k] ∧ k ≠ 0 ∧ k.natAbs < 1073741824 ∧ Builtin.Range.small i j k = true ∧ Builtin.Range.rangeSize i j k = n ∧ R (Itrs i k n) H1
end
theorem comp_list {K : PySem.W.Frag} {a : Addr} {xs : List V} {fv : List (Nat × Str)} {te : TE} {Q : VK} {σ : St} {H1 : Hp} {D : Addr} (Pv : Nat -> Hp -> Prop) (h0 : Pv 0 (upd H1 D (.lst []))) (hl : ∀ i H, i <= xs.length -> Pv i H -> SqL K H a xs)
  (hs : ∀ i v H, xs[i]? = some v -> Pv i H -> te (bst fv σ (some v)) H fun y H2 => ∃ ys, H2 D = some (.lst ys) ∧ ys.length < sizeLine ∧ Pv (i + 1) (upd H2 D (.lst (ys ++ [y])))) (hd : ∀ H, Pv xs.length H -> Q (.ref D) H) :
  ∃ W : Nat -> Nat -> Hp -> Prop, (∃ m, W 0 m (upd H1 D (.lst []))) ∧ ∀ i m H, W i m H ->
   ((Itl K a).stop i H ∧ Q (.ref D) H) ∨ ((Itl K a).go i H ∧ ∃ N : Hp -> Prop, (∀ H', N H' -> ∃ m', m' < m ∧ W (i + 1) m' H') ∧ ∀ v H', (Itl K a).yld i H v H' -> te (bst fv σ (some v)) H' fun y H2 => ∃ ys, H2 D = some (.lst ys) ∧ ys.length < sizeLine ∧ N (upd H2 D (.lst (ys ++ [y])))) := by
 refine ⟨fun i m H => m = xs.length - i ∧ i <= xs.length ∧ Pv i H, ⟨xs.length, by simp, Nat.zero_le _, h0⟩, ?_⟩
 rintro i m H ⟨rfl, hi, p⟩
 have q := hl i H hi p
 by_cases hlt : i < xs.length
 ·refine .inr ⟨⟨xs, xs[i], q, List.getElem?_eq_getElem hlt⟩, Pv (i + 1), fun H' p' => ⟨xs.length - (i + 1), by omega, rfl, hlt, p'⟩, fun v H' y => ?_⟩
  obtain ⟨e, y⟩ := y
  subst e
  exact hs i v _ (y xs q) p
 ·have e : i = xs.length := by omega
  subst e
  exact .inl ⟨⟨xs, q, Nat.le_refl _⟩, hd H p⟩
theorem comp_range {lo : Int} {n : Nat} {fv : List (Nat × Str)} {te : TE} {Q : VK} {σ : St} {H1 : Hp} {D : Addr} (Pv : Nat -> Hp -> Prop) (h0 : Pv 0 (upd H1 D (.lst [])))
  (hs : ∀ i H, i < n -> Pv i H -> te (bst fv σ (some (.int (lo + i)))) H fun y H2 => ∃ ys, H2 D = some (.lst ys) ∧ ys.length < sizeLine ∧ Pv (i + 1) (upd H2 D (.lst (ys ++ [y])))) (hd : ∀ H, Pv n H -> Q (.ref D) H) :
  ∃ W : Nat -> Nat -> Hp -> Prop, (∃ m, W 0 m (upd H1 D (.lst []))) ∧ ∀ i m H, W i m H ->
   ((Itr lo n).stop i H ∧ Q (.ref D) H) ∨ ((Itr lo n).go i H ∧ ∃ N : Hp -> Prop, (∀ H', N H' -> ∃ m', m' < m ∧ W (i + 1) m' H') ∧ ∀ v H', (Itr lo n).yld i H v H' -> te (bst fv σ (some v)) H' fun y H2 => ∃ ys, H2 D = some (.lst ys) ∧ ys.length < sizeLine ∧ N (upd H2 D (.lst (ys ++ [y])))) := by
 refine ⟨fun i m H => m = n - i ∧ i <= n ∧ Pv i H, ⟨n, by simp, Nat.zero_le _, h0⟩, ?_⟩
 rintro i m H ⟨rfl, hi, p⟩
 by_cases hlt : i < n
 ·refine .inr ⟨hlt, Pv (i + 1), fun H' p' => ⟨n - (i + 1), by omega, rfl, hlt, p'⟩, fun v H' y => ?_⟩
  obtain ⟨e, y⟩ := y
  subst e y
  exact hs i _ hlt p
 ·have e : i = n := by omega
  subst e
  exact .inl ⟨Nat.le_refl _, hd H p⟩
theorem sub_nil {cells : List (Str × Addr)} : ∀ y c, ([] : List (Str × Addr)).lookup y = some c -> cells.lookup y = some c := fun _ _ h => nomatch h
theorem sub_cons {n : Str} {c0 : Addr} {r cells : List (Str × Addr)} (h0 : cells.lookup n = some c0) (h : ∀ y c, r.lookup y = some c -> cells.lookup y = some c) : ∀ y c, ((n, c0) :: r).lookup y = some c -> cells.lookup y = some c := fun y c q => by
 rw [List.lookup_cons] at q
 cases e : y == n with
 | true =>
  rw [e] at q
  cases q
  rw [eq_of_beq e]; exact h0
 | false =>
  rw [e] at q
  exact h y c q
theorem has_of {l : List (Str × NameKind)} {cl : List (Str × Addr)} (h : (l.all fun p => (p.2 != .cell && p.2 != .free) || (cl.lookup p.1).isSome) = true) : ∀ y, (l.lookup y = some .cell ∨ l.lookup y = some .free) -> ∃ c, cl.lookup y = some c := fun y hy => by
 have key : ∀ k, l.lookup y = some k -> (k = .cell ∨ k = .free) -> ∃ c, cl.lookup y = some c := fun k e hk => by
  have q := List.all_eq_true.mp h (y, k) (PySem.mem_of_lookup e)
  have z : (k != .cell && k != .free) = false := by rcases hk with rfl | rfl <;> rfl
  rw [show ((y, k).2 != .cell && (y, k).2 != .free) = false from z, Bool.false_or] at q
  exact Option.isSome_iff_exists.mp q
 rcases hy with e | e
 ·exact key _ e (.inl rfl)
 ·exact key _ e (.inr rfl)
def FvOk (X : Cx) (x : Str) (scope : Scope) (cl : List (Str × Addr)) (fv : List (Nat × Str)) : Prop :=
 ∀ p ∈ fv, p.2 ≠ x ∧ X.N[p.1]? = some p.2 ∧ (X.env.scope.names.lookup p.2 = some .cell ∨ X.env.scope.names.lookup p.2 = some .free) ∧
  ((relabel scope X.env).names.lookup p.2 = some .cell ∨ (relabel scope X.env).names.lookup p.2 = some .free) ∧ ∃ c, cl.lookup p.2 = some c
theorem fv_nil {X : Cx} {x : Str} {scope : Scope} {cl : List (Str × Addr)} : FvOk X x scope cl [] := fun _ h => nomatch h
theorem fv_cons {X : Cx} {x : Str} {scope : Scope} {cl : List (Str × Addr)} {fv : List (Nat × Str)} (i : Nat) (y : Str) (h1 : y ≠ x) (h2 : X.N[i]? = some y) (h3 : X.env.scope.names.lookup y = some .cell ∨ X.env.scope.names.lookup y = some .free)
  (h4 : (relabel scope X.env).names.lookup y = some .cell ∨ (relabel scope X.env).names.lookup y = some .free) (h5 : ∃ c, cl.lookup y = some c) (r : FvOk X x scope cl fv) : FvOk X x scope cl ((i, y) :: fv) := fun p hp => by
 rcases List.mem_cons.mp hp with rfl | hp
 ·exact ⟨h1, h2, h3, h4, h5⟩
 ·exact r p hp
theorem blkok {X : Cx} {x : Str} {fv : List (Nat × Str)} {scope : Scope} {cl : List (Str × Addr)} (clos : closureFor scope X.env = pure cl) (sub : ∀ y c, cl.lookup y = some c -> X.env.cells.lookup y = some c) (fvs : FvOk X x scope cl fv)
  (kind : scope.kind = .function := by rfl) (here : scope.names.lookup x = some .local := by rfl) (nocell : ∀ y ∈ scope.names, y.2 ≠ .cell := by decide +kernel)
  (names : ∀ y ∈ scope.names, y.2 = .local -> scope.names.lookup y.1 = some .local := by decide +kernel)
  (has : ((relabel scope X.env).names.all fun p => (p.2 != .cell && p.2 != .free) || (cl.lookup p.1).isSome) = true := by rfl) : BlkOk X x fv scope cl :=
 ⟨clos, nocell, kind, names, here, sub, has_of has, fvs⟩
section
variable {X : Cx}
end
theorem intBits_le_of {i : Int} {k : Nat} (h : i.natAbs < 2 ^ k) : Builtin.Int.intBits i <= k := by
 unfold Builtin.Int.intBits
 split
 ·exact Nat.zero_le _
 ·rename_i hz
  have hz' : i ≠ 0 := by simpa using hz
  have : i.natAbs.log2 < k := (Nat.log2_lt (by omega)).mpr h
  omega
theorem mulOk_of {i j : Int} {k l : Nat} (h1 : i.natAbs < 2 ^ k) (h2 : j.natAbs < 2 ^ l) (h : k + l <= 134217728) : IntMulOk i j := IntMulOk.of_le (intBits_le_of h1) (intBits_le_of h2) h
theorem op_fdivB {X : Cx} : OpR X (binaryOp .FloorDiv) (rI (fun _ j => j ≠ 0 ∧ j.natAbs < 2 ^ 9000) fun i j => .int (i.fdiv j)) :=
 opI fun _ j _ _ _ _ _ hc q => floordiv_int hc.1 q (.inl (PyProof.noPylong_of_log2 ((Nat.log2_lt (by have := hc.1; omega)).mpr hc.2)))
end L2
namespace L2
open PySem PySem.Spec PyProof.Rows
section
variable {σ : St} {H : Hp} {Q : VK} {D : Ends} {t u : TS} {te ta tb tc to ti : TE} {tt : TT} {tA : TA} {i : Nat} {x y v : V} {r r' : R2} {QT : Bool -> Hp -> Prop} {QA : List V -> Hp -> Prop}
theorem a_seq : tSeq t u D σ H = t { D with nx := u D } σ H := rfl
theorem a_next : tNext D σ H = D.nx σ H := rfl
theorem a_brk : tBreak D σ H = D.bk σ H := rfl
theorem a_cnt : tCont D σ H = D.ct σ H := rfl
theorem a_drop : tDrop te D σ H = te σ H fun _ H1 => D.nx σ H1 := rfl
theorem a_ret : tRet te D σ H = te σ H D.rt := rfl
theorem a_retN : tRetN D σ H = D.rt .non H := rfl
theorem a_if : tIfS tt t u D σ H = tt σ H fun b H1 => if b = true then t D σ H1 else u D σ H1 := rfl
theorem a_asg {g : TG} : tAsg te g D σ H = te σ H fun x H1 => g x σ H1 D.nx := rfl
theorem a_gname {Q : St -> Hp -> Prop} : gName i v σ H Q = Q (σ.set i (some v)) H := rfl
theorem a_gsub {ts : TSet} {Q : St -> Hp -> Prop} : gSub to ti ts v σ H Q = to σ H fun o H1 => ti σ H1 fun i H2 => ts o i v H2 fun H3 => Q σ H3 := rfl
theorem a_gtup {K : PySem.W.Frag} {n : Nat} {ts : TGs} {Q : St -> Hp -> Prop} : gTup K n ts v σ H Q = ∃ a xs, v = .ref a ∧ SqT K H a xs ∧ xs.length = n ∧ ts xs σ H Q := rfl
theorem a_gnil {vs : List V} {Q : St -> Hp -> Prop} : gNil vs σ H Q = (vs = [] ∧ Q σ H) := rfl
theorem a_gcons {g : TG} {gs : TGs} {vs : List V} {Q : St -> Hp -> Prop} : gCons g gs vs σ H Q = ∃ v r, vs = v :: r ∧ g v σ H fun σ' H' => gs r σ' H' Q := rfl
theorem a_aug {ip : TIp} : tAug i te ip D σ H = ∃ x, σ[i]? = some (some x) ∧ te σ H fun y H1 => ip x y H1 fun z H2 => D.nx (σ.set i (some z)) H2 := rfl
theorem a_augS {tget : V -> V -> Hp -> VK -> Prop} {tip : TIp} {tset : TSet} : tAugS to ti te tget tip tset D σ H = to σ H fun o H1 => ti σ H1 fun i H2 => tget o i H2 fun x H3 => te σ H3 fun y H4 => tip x y H4 fun z H5 => tset o i z H5 fun H6 => D.nx σ H6 := rfl
theorem a_ipI {f : Int -> Int -> Int} : ipI f x y H Q = ∃ i j, x = .int i ∧ y = .int j ∧ Q (.int (f i j)) H := rfl
theorem a_var : tVar i σ H Q = ∃ v, σ[i]? = some (some v) ∧ Q v H := rfl
theorem a_c : tC v σ H Q = Q v H := rfl
theorem a_op : tOp r ta tb σ H Q = ta σ H fun x H1 => tb σ H1 fun y H2 => r x y H2 Q := rfl
theorem a_un {r : V -> Hp -> VK -> Prop} : tUn r ta σ H Q = ta σ H fun x H1 => r x H1 Q := rfl
theorem a_rI {C : Int -> Int -> Prop} {g : Int -> Int -> V} : rI C g x y H Q = ∃ i j, x = .int i ∧ y = .int j ∧ C i j ∧ Q (g i j) H := rfl
theorem a_rI0 {g : Int -> Int -> V} : rI0 g x y H Q = ∃ i j, x = .int i ∧ y = .int j ∧ Q (g i j) H := rfl
theorem a_rU {g : Int -> V} : rU g x H Q = ∃ i, x = .int i ∧ Q (g i) H := rfl
theorem a_eqI {i j : Int} : rEq (.int i) (.int j) H Q = Q (.bl (decide (i = j))) H := by
 show (true = true ∧ Q (.bl (decide (V.int i = V.int j))) H) = _
 rw [show decide (V.int i = V.int j) = decide (i = j) by rw [dec_int]; exact Bool.beq_eq_decide_eq i j]
 simp
theorem a_neI {i j : Int} : rNe (.int i) (.int j) H Q = Q (.bl (!decide (i = j))) H := by
 show (true = true ∧ Q (.bl (!decide (V.int i = V.int j))) H) = _
 rw [show decide (V.int i = V.int j) = decide (i = j) by rw [dec_int]; exact Bool.beq_eq_decide_eq i j]
 simp
theorem a_eqB {i j : Bool} : rEq (.bl i) (.bl j) H Q = Q (.bl (decide (i = j))) H := by
 show (true = true ∧ Q (.bl (decide (V.bl i = V.bl j))) H) = _
 cases i <;> cases j <;> simp
theorem a_neB {i j : Bool} : rNe (.bl i) (.bl j) H Q = Q (.bl (!decide (i = j))) H := by
 show (true = true ∧ Q (.bl (!decide (V.bl i = V.bl j))) H) = _
 cases i <;> cases j <;> simp
theorem a_tB : tB te σ H QT = te σ H fun x H1 => ∃ c, x = .bl c ∧ QT c H1 := rfl
theorem a_test : tTest te σ H QT = te σ H fun x H' => ∃ k, x = .bl k ∧ QT k H' := rfl
theorem a_and {tt' : TT} : tAnd tt tt' σ H QT = tt σ H fun c H1 => if c = true then tt' σ H1 QT else QT false H1 := rfl
theorem a_or {tt' : TT} : tOr tt tt' σ H QT = tt σ H fun c H1 => if c = true then QT true H1 else tt' σ H1 QT := rfl
theorem a_not : tNot tt σ H QT = tt σ H fun c H1 => QT (!c) H1 := rfl
theorem a_andV : tAndV ta tb σ H Q = ta σ H fun x H1 => ∃ c, x = .bl c ∧ if c = true then tb σ H1 Q else Q (.bl false) H1 := rfl
theorem a_orV : tOrV ta tb σ H Q = ta σ H fun x H1 => ∃ c, x = .bl c ∧ if c = true then Q (.bl true) H1 else tb σ H1 Q := rfl
theorem a_notV : tNotV ta σ H Q = ta σ H fun x H1 => ∃ c, x = .bl c ∧ Q (.bl (!c)) H1 := rfl
theorem a_ifE : tIf tt ta tb σ H Q = tt σ H fun c H1 => if c = true then ta σ H1 Q else tb σ H1 Q := rfl
theorem a_chain : tChain r r' ta tb tc σ H Q = ta σ H fun x H1 => tb σ H1 fun y H2 => r x y H2 fun z H3 => ∃ k, z = .bl k ∧ (if k = true then tc σ H3 fun w' H4 => r' y w' H4 Q else Q (.bl false) H3) := rfl
theorem a_nil : tNil σ H QA = QA [] H := rfl
theorem a_cons : tCons ta tA σ H QA = ta σ H fun x H1 => tA σ H1 fun xs H2 => QA (x :: xs) H2 := rfl
theorem a_lst : tLst tA σ H Q = tA σ H fun xs H1 => xs.length <= sizeLine ∧ ∀ p, H1 p = none -> Q (.ref p) (upd H1 p (.lst xs)) := rfl
theorem a_tup : tTup tA σ H Q = tA σ H fun xs H1 => xs.length <= sizeLine ∧ ∀ p, H1 p = none -> Q (.ref p) (upd H1 p (.tup xs)) := rfl
theorem a_call {sp : Sp} {dvs : List V} {E : XK} : tCall sp dvs E tA σ H Q = tA σ H fun vs H1 => sp (vs ++ dvs) H1 Q E := rfl
theorem a_cb {r : List V -> Hp -> VK -> Prop} : tCB r tA σ H Q = tA σ H fun vs H1 => r vs H1 Q := rfl
theorem a_bm0 {K : PySem.W.Frag} {T : String} {r : V -> List V -> Hp -> VK -> Prop} : tBM0 K T r to σ H Q = to σ H fun x H1 => tyV K T x H1 ∧ r x [] H1 Q := rfl
theorem a_bm {K : PySem.W.Frag} {T : String} {r : V -> List V -> Hp -> VK -> Prop} : tBM K T r to tA σ H Q = to σ H fun x H1 => tyV K T x H1 ∧ tA σ H1 fun xs H2 => r x xs H2 Q := rfl
theorem a_sl {r : V -> Option Int -> Option Int -> Hp -> VK -> Prop} {tl th : TO} : tSl r te tl th σ H Q = te σ H fun x H1 => tl σ H1 fun l H2 => th σ H2 fun u H3 => r x l u H3 Q := rfl
theorem a_nopart {Q : Option Int -> Hp -> Prop} : tNoPart σ H Q = Q none H := rfl
theorem a_part {Q : Option Int -> Hp -> Prop} : tPart te σ H Q = te σ H fun x H1 => ∃ i, x = .int i ∧ Q (some i) H1 := rfl
theorem a_tyI {K : PySem.W.Frag} {T : String} {i : Int} : tyV K T (.int i) H = (T = "int") := rfl
theorem a_tyL {K : PySem.W.Frag} {p : Addr} {xs : List V} (h : SqL K H p xs) : tyV K "list" (.ref p) H := .inl ⟨rfl, xs, h⟩
end
def Loop (J : It) (g : TG) (tb : TS) (D : Ends) (σ : St) (H : Hp) : Prop := ∃ W : Nat -> Nat -> St -> Hp -> Prop, (∃ m, W 0 m σ H) ∧ ∀ i m σ H, W i m σ H ->
 (J.stop i H ∧ D.nx σ H) ∨ (J.go i H ∧ ∃ N : St -> Hp -> Prop, (∀ σ' H', N σ' H' -> ∃ m', m' < m ∧ W (i + 1) m' σ' H') ∧ ∀ x H', J.yld i H x H' -> g x σ H' fun σ2 H2 => tb { D with nx := N, ct := N, bk := D.nx } σ2 H2)
theorem a_for {wi : TI} {g : TG} {tb : TS} {D : Ends} {σ : St} {H : Hp} : tFor wi g tb D σ H = wi σ H fun J H1 => Loop J g tb D σ H1 := rfl
def CLoop (J : It) (fv : List (Nat × Str)) (te : TE) (Q : VK) (σ : St) (H1 : Hp) (D : Addr) : Prop := ∃ W : Nat -> Nat -> Hp -> Prop, (∃ m, W 0 m (upd H1 D (.lst []))) ∧ ∀ i m H, W i m H ->
 (J.stop i H ∧ Q (.ref D) H) ∨ (J.go i H ∧ ∃ N : Hp -> Prop, (∀ H', N H' -> ∃ m', m' < m ∧ W (i + 1) m' H') ∧ ∀ v H', J.yld i H v H' -> te (bst fv σ (some v)) H' fun y H2 => ∃ ys, H2 D = some (.lst ys) ∧ ys.length < sizeLine ∧ N (upd H2 D (.lst (ys ++ [y]))))
theorem a_comp {fv : List (Nat × Str)} {wi : TI} {te : TE} {σ : St} {H : Hp} {Q : VK} : tComp fv wi te σ H Q = wi σ H fun J H1 => ∀ D, H1 D = none -> CLoop J fv te Q σ H1 D := rfl
theorem a_ilist {K : PySem.W.Frag} {tl : TE} {σ : St} {H : Hp} {R : It -> Hp -> Prop} : iList K tl σ H R = tl σ H fun x H1 => ∃ a, x = .ref a ∧ (∃ xs, SqL K H1 a xs) ∧ R (Itl K a) H1 := rfl
theorem a_itup {K : PySem.W.Frag} {tl : TE} {σ : St} {H : Hp} {R : It -> Hp -> Prop} : iTup K tl σ H R = tl σ H fun x H1 => ∃ a, x = .ref a ∧ (∃ xs, SqT K H1 a xs) ∧ R (Itt K a) H1 := rfl
theorem a_irng1 {ta : TA} {σ : St} {H : Hp} {R : It -> Hp -> Prop} : iRng1 ta σ H R = ta σ H fun vs H1 => ∃ j : Int, vs = [.int j] ∧ -(2 ^ 62) <= j ∧ j < 2 ^ 62 ∧ R (Itr 0 j.toNat) H1 := rfl
theorem a_irng2 {ta : TA} {σ : St} {H : Hp} {R : It -> Hp -> Prop} : iRng2 ta σ H R = ta σ H fun vs H1 => ∃ i j : Int, vs = [.int i, .int j] ∧ (-(2 ^ 62) <= i ∧ i < 2 ^ 62 ∧ -(2 ^ 62) <= j ∧ j < 2 ^ 62) ∧ R (Itr i (j - i).toNat) H1 := rfl
theorem a_irng3 {ta : TA} {σ : St} {H : Hp} {R : It -> Hp -> Prop} : iRng3 ta σ H R = ta σ H fun vs H1 => ∃ (i j k : Int) (n : Nat), vs = [.int i, .int j, .int k] ∧ k ≠ 0 ∧ k.natAbs < 1073741824 ∧ Builtin.Range.small i j k = true ∧ Builtin.Range.rangeSize i j k = n ∧ R (Itrs i k n) H1 := rfl
theorem while_of {c : TT} {tb : TS} {D : Ends} {σ : St} {H : Hp} (Pv : Nat -> St -> Hp -> Prop) (m : Nat) (h0 : Pv m σ H)
  (hs : ∀ m σ H, Pv m σ H -> c σ H fun b H1 => if b = true then ∃ N : St -> Hp -> Prop, (∀ σ' H', N σ' H' -> ∃ m', m' < m ∧ Pv m' σ' H') ∧ tb { D with nx := N, ct := N, bk := D.nx } σ H1 else D.nx σ H1) : tWhile c tb D σ H := ⟨Pv, ⟨m, h0⟩, hs⟩
section
variable {σ : St} {H : Hp} {Q : VK} {x y v : V} {K : PySem.W.Frag}
theorem a_rslL {lo hi : Option Int} : rSlL K x lo hi H Q = ∃ a xs, x = .ref a ∧ SqL K H a xs ∧ ∀ p, H p = none -> Q (.ref p) (upd H p (.lst (cutV xs lo hi))) := rfl
theorem a_ixL : rIxL K x y H Q = ∃ p xs i v, x = .ref p ∧ y = .int i ∧ SqL K H p xs ∧ atI xs i = some v ∧ Q v H := rfl
theorem a_ixT : rIxT K x y H Q = ∃ p xs i v, x = .ref p ∧ y = .int i ∧ SqT K H p xs ∧ atI xs i = some v ∧ Q v H := rfl
theorem a_setL {Q : Hp -> Prop} : rSetL x y v H Q = ∃ p xs k j, x = .ref p ∧ y = .int k ∧ H p = some (.lst xs) ∧ ixN xs.length k = some j ∧ Q (upd H p (.lst (xs.set j v))) := rfl
theorem a_app {vs : List V} : rAppend x vs H Q = ∃ l xs y, x = .ref l ∧ vs = [y] ∧ H l = some (.lst xs) ∧ xs.length < sizeLine ∧ Q .non (upd H l (.lst (xs ++ [y]))) := rfl
theorem cutV_map (ns : List Int) (lo hi : Option Int) : cutV (ns.map V.int) lo hi = ((ns.drop (HT.sIx ns.length 0 lo)).take (HT.sIx ns.length ns.length hi - HT.sIx ns.length 0 lo)).map V.int := by
 unfold cutV
 rw [List.length_map, List.map_take, List.map_drop]
end
theorem bt_len : bootBuiltins "len" = some (.builtin "len") := by decide +kernel
theorem bt_abs : bootBuiltins "abs" = some (.builtin "abs") := by decide +kernel
theorem bt_isinstance : bootBuiltins "isinstance" = some (.builtin "isinstance") := by decide +kernel
theorem bt_list : bootBuiltins "list" = some (.type "list") := by decide +kernel
theorem bt_tuple : bootBuiltins "tuple" = some (.type "tuple") := by decide +kernel
theorem bt_ValueError : bootBuiltins "ValueError" = some (.type "ValueError") := by decide +kernel
def tMid (t u : TS) : TS := fun D σ H => ∃ M : St -> Hp -> Prop, t { D with nx := M } σ H ∧ ∀ σ' H', M σ' H' -> u D σ' H'
theorem pss_mid {X : Cx} {st : Stmt} {rest : List Stmt} {t u : TS} (h1 : PS X st t) (h2 : PSs X rest u) : PSs X (st :: rest) (tMid t u) := by
 intro pins s σ H D I h
 obtain ⟨M, h, hM⟩ := h
 refine wpAny_execs_cons (thn (h1 pins s σ H { D with nx := M } I h) fun f s1 q => ?_)
 cases f with
 | next =>
  obtain ⟨σ', H', I', q⟩ := q
  exact h2 pins s1 σ' H' D I' (hM σ' H' q)
 | ret v => exact q
 | brk => exact q
 | cont => exact q
theorem mid_of {t u : TS} {D : Ends} {σ : St} {H : Hp} (M : St -> Hp -> Prop) (h1 : t { D with nx := M } σ H) (h2 : ∀ σ' H', M σ' H' -> u D σ' H') : tMid t u D σ H := ⟨M, h1, h2⟩
theorem a_cxK {CX : CXT} {P : Program} {w : World} {K : PySem.W.Frag} {mg : Str -> Option Value} {base : Heap} {N : List Str} {qual : Str} {scope : Scope} {f : Addr} {cd : Value} {A : Around} {outer : List Env} {s : Shared} {H : Hp} {E : XK} :
  (cxOf CX P w K mg base N qual scope f cd A outer s H E).K = K := rfl
section
variable {K : PySem.W.Frag} {a : Addr} {xs : List V} {g : TG} {tb : TS} {D : Ends} {σ : St} {H H1 : Hp} {fv : List (Nat × Str)} {te : TE} {Q : VK} {L : Addr} {lo c : Int} {n : Nat}
theorem cl_list (Pv : Nat -> Hp -> Prop) (h0 : Pv 0 (upd H1 L (.lst []))) (hl : ∀ i H, i <= xs.length -> Pv i H -> SqL K H a xs)
  (hs : ∀ i v H, xs[i]? = some v -> Pv i H -> te (bst fv σ (some v)) H fun y H2 => ∃ ys, H2 L = some (.lst ys) ∧ ys.length < sizeLine ∧ Pv (i + 1) (upd H2 L (.lst (ys ++ [y])))) (hd : ∀ H, Pv xs.length H -> Q (.ref L) H) :
  CLoop (Itl K a) fv te Q σ H1 L := comp_list Pv h0 hl hs hd
theorem cl_range (Pv : Nat -> Hp -> Prop) (h0 : Pv 0 (upd H1 L (.lst [])))
  (hs : ∀ i H, i < n -> Pv i H -> te (bst fv σ (some (.int (lo + i)))) H fun y H2 => ∃ ys, H2 L = some (.lst ys) ∧ ys.length < sizeLine ∧ Pv (i + 1) (upd H2 L (.lst (ys ++ [y])))) (hd : ∀ H, Pv n H -> Q (.ref L) H) :
  CLoop (Itr lo n) fv te Q σ H1 L := comp_range Pv h0 hs hd
theorem lp_list (Pv : Nat -> St -> Hp -> Prop) (h0 : Pv 0 σ H) (hl : ∀ i σ H, i <= xs.length -> Pv i σ H -> SqL K H a xs)
  (hs : ∀ i v σ H, xs[i]? = some v -> Pv i σ H -> g v σ H fun σ2 H2 => tb { D with nx := Pv (i + 1), ct := Pv (i + 1), bk := D.nx } σ2 H2) (hd : ∀ σ H, Pv xs.length σ H -> D.nx σ H) : Loop (Itl K a) g tb D σ H := for_list Pv h0 hl hs hd
theorem lp_range (Pv : Nat -> St -> Hp -> Prop) (h0 : Pv 0 σ H)
  (hs : ∀ i σ H, i < n -> Pv i σ H -> g (.int (lo + i)) σ H fun σ2 H2 => tb { D with nx := Pv (i + 1), ct := Pv (i + 1), bk := D.nx } σ2 H2) (hd : ∀ σ H, Pv n σ H -> D.nx σ H) : Loop (Itr lo n) g tb D σ H := for_range Pv h0 hs hd
theorem upd_none {p : Addr} {o : HO} (h : upd H p o L = none) : L ≠ p ∧ H L = none := by
 by_cases e : L = p
 ·subst e; rw [upd_same] at h; cases h
 ·rw [upd_ne e] at h; exact ⟨e, h⟩
end
end L2
namespace L2
open PySem PySem.Spec PyProof.Rows
section
variable {X : Cx}
mutual
inductive DV (K : PySem.W.Frag) (H : Hp) : V -> PyData -> Prop
 | non : DV K H .non .none
 | bl (b) : DV K H (.bl b) (.bool b)
 | int (i) : DV K H (.int i) (.int i)
 | str (x) : DV K H (.str x) (.str x)
 | lst {a xs ds} : SqL K H a xs -> DVs K H xs ds -> DV K H (.ref a) (.list ds)
 | tup {a xs ds} : SqT K H a xs -> DVs K H xs ds -> DV K H (.ref a) (.tuple ds)
inductive DVs (K : PySem.W.Frag) (H : Hp) : List V -> List PyData -> Prop
 | nil : DVs K H [] []
 | cons {x xs d ds} : DV K H x d -> DVs K H xs ds -> DVs K H (x :: xs) (d :: ds)
end
mutual
theorem DV.reads {pins : List (Addr × Obj)} {σ : St} {H : Hp} {s : Shared} (I : Inv X pins σ H s) : ∀ {x : V} {d : PyData} {v : Value}, DV X.K H x d -> RelV x v -> ∃ as, Reads s.heap v d as
 | _, _, _, .non, r => by cases r; exact ⟨_, .none⟩
 | _, _, _, .bl b, r => by cases r; exact ⟨_, .bool b⟩
 | _, _, _, .int i, r => by obtain ⟨t, rfl⟩ := r; exact ⟨_, .int i t⟩
 | _, _, _, .str x, r => by obtain ⟨t, rfl⟩ := r; exact ⟨_, .str x t⟩
 | _, _, _, .lst hq hs, r => by
  cases r
  obtain ⟨its, rv, ⟨o, n, e, c, _, hd⟩, _⟩ := I.list hq
  obtain ⟨as, ra⟩ := DVs.reads I hs rv
  exact ⟨_, .list e c hd (by simpa using ra)⟩
 | _, _, _, .tup hq hs, r => by
  cases r
  obtain ⟨its, rv, ⟨o, e, c, n, hd⟩, _⟩ := I.tuple hq
  obtain ⟨as, ra⟩ := DVs.reads I hs rv
  exact ⟨_, .tuple e c hd (by simpa using ra)⟩
theorem DVs.reads {pins : List (Addr × Obj)} {σ : St} {H : Hp} {s : Shared} (I : Inv X pins σ H s) : ∀ {xs : List V} {ds : List PyData} {vs : List Value}, DVs X.K H xs ds -> Vals xs vs -> ∃ as, ReadsAll s.heap vs ds as
 | _, _, _, .nil, r => by cases r; exact ⟨_, .nil⟩
 | _, _, _, .cons h t, r => by
  cases r with
  | cons r1 r2 =>
   obtain ⟨as, ra⟩ := DV.reads I h r1
   obtain ⟨bs, rb⟩ := DVs.reads I t r2
   exact ⟨_, .cons ra rb⟩
end
theorem op_eqD (hu : X.A.units + 64 < cLine) : OpR X (compareOp .Eq) (fun x y H Q => ∃ da db, DV X.K H x da ∧ DV X.K H y db ∧ da.canLay0 = true ∧ db.canLay0 = true ∧ da.depth <= 64 ∧ Q (.bl (PyData.eqv da db)) H) := by
 intro pins s σ H x y v u Q I rx ry h
 obtain ⟨da, db, hx, hy, c1, c2, hd, q⟩ := h
 obtain ⟨as, ra⟩ := hx.reads I rx
 obtain ⟨bs, rb⟩ := hy.reads I ry
 exact PySem.SeqAt.eqOverData _ _ _ _ _ _ _ _ _ _ _ _ ra rb c1 c2 (by omega) ⟨.bl _, H, I, rfl, q⟩
theorem op_neD (hu : X.A.units + 64 < cLine) : OpR X (compareOp .NotEq) (fun x y H Q => ∃ da db, DV X.K H x da ∧ DV X.K H y db ∧ da.canLay0 = true ∧ db.canLay0 = true ∧ da.depth <= 64 ∧ Q (.bl (!PyData.eqv da db)) H) := by
 intro pins s σ H x y v u Q I rx ry h
 obtain ⟨da, db, hx, hy, c1, c2, hd, q⟩ := h
 obtain ⟨as, ra⟩ := hx.reads I rx
 obtain ⟨bs, rb⟩ := hy.reads I ry
 exact PySem.SeqAt.neOverData _ _ _ _ _ _ _ _ _ _ _ _ ra rb c1 c2 (by omega) ⟨.bl _, H, I, rfl, q⟩
end
def Ite (K : PySem.W.Frag) (a : Addr) : It :=
 ⟨fun i H => ∃ xs x, SqL K H a xs ∧ xs[i]? = some x, fun i H v H' => ∃ p x, H p = none ∧ v = .ref p ∧ H' = upd H p (.tup [.int i, x]) ∧ ∀ xs, SqL K H a xs -> xs[i]? = some x, fun i H => ∃ xs, SqL K H a xs ∧ xs.length <= i⟩
section
variable {X : Cx}
def iEnum (K : PySem.W.Frag) (ta : TA) : TI := fun σ H R => ta σ H fun vs H1 => ∃ a xs, vs = [.ref a] ∧ SqL K H1 a xs ∧ R (Ite K a) H1
end
theorem a_ienum {K : PySem.W.Frag} {ta : TA} {σ : St} {H : Hp} {R : It -> Hp -> Prop} : iEnum K ta σ H R = ta σ H fun vs H1 => ∃ a xs, vs = [.ref a] ∧ SqL K H1 a xs ∧ R (Ite K a) H1 := rfl
end L2
namespace L2
open PySem PySem.Spec PyProof.Rows
def Itv (K : PySem.W.Frag) (a : Addr) (n : Nat) : It :=
 ⟨fun i H => i < n ∧ ∃ xs, SqL K H a xs ∧ xs.length = n, fun i H x H' => H' = H ∧ ∀ xs, SqL K H a xs -> xs[n - 1 - i]? = some x, fun i _ => i = n⟩
section
variable {X : Cx} {tg : Expr}
def iRev (K : PySem.W.Frag) (ta : TA) : TI := fun σ H R => ta σ H fun vs H1 => ∃ a xs, vs = [.ref a] ∧ SqL K H1 a xs ∧ R (Itv K a xs.length) H1
end
theorem a_irev {K : PySem.W.Frag} {ta : TA} {σ : St} {H : Hp} {R : It -> Hp -> Prop} : iRev K ta σ H R = ta σ H fun vs H1 => ∃ a xs, vs = [.ref a] ∧ SqL K H1 a xs ∧ R (Itv K a xs.length) H1 := rfl
section
variable {σ : St} {H : Hp} {Q : VK} {x y v : V} {vs : List V}
theorem a_cat : rCat x y H Q = ∃ l b xs zs, x = .ref l ∧ y = .ref b ∧ H l = some (.lst xs) ∧ H b = some (.lst zs) ∧ xs.length + zs.length <= sizeLine ∧ ∀ p, H p = none -> Q (.ref p) (upd H p (.lst (xs ++ zs))) := rfl
theorem a_rep : rRep x y H Q = ∃ l k xs, x = .ref l ∧ y = .int k ∧ H l = some (.lst xs) ∧ -(2 ^ 63) <= k ∧ k < 2 ^ 63 ∧ xs.length * k.toNat <= sizeLine ∧ ∀ p, H p = none -> Q (.ref p) (upd H p (.lst (List.replicate k.toNat xs).flatten)) := rfl
theorem a_pop : rPop x vs H Q = ∃ l xs y, x = .ref l ∧ vs = [] ∧ H l = some (.lst xs) ∧ xs[xs.length - 1]? = some y ∧ Q y (upd H l (.lst xs.dropLast)) := rfl
theorem a_clear : rClear x vs H Q = ∃ l xs, x = .ref l ∧ vs = [] ∧ H l = some (.lst xs) ∧ Q .non (upd H l (.lst [])) := rfl
end
end L2
namespace L2
open PySem PySem.Spec PyProof.Rows
theorem op_mulZ {X : Cx} : OpR X (binaryOp .Mult) (rI IntMulOk fun i j => .int (i * j)) := opI fun _ _ _ _ _ _ _ hc q => mul_int q hc
def Bd (k : Nat) (x : Int) : Prop := x.natAbs < 2 ^ k
theorem Bd.mono {k l : Nat} {x : Int} (h : Bd k x) (hl : k <= l) : Bd l x := Nat.lt_of_lt_of_le h (Nat.pow_le_pow_right (by decide) hl)
theorem Bd.one {k : Nat} (h : 0 < k) : Bd k 1 := by
 have : Bd 1 1 := by show (1 : Nat) < 2 ^ 1; decide
 exact this.mono h
theorem Bd.fits {k l : Nat} {x y : Int} (h : Bd k x) (g : Bd l y) (hz : k + l <= 134217728) : IntMulOk x y := mulOk_of h g hz
theorem Bd.of_lt {k : Nat} {x : Int} {m : Nat} (h : x.natAbs < m) (hm : m <= 2 ^ k) : Bd k x := Nat.lt_of_lt_of_le h hm
def newL (H : Hp) (Q : VK) (ys : List V) : Prop := ∀ r H', Same H H' -> H r = none -> H' r = some (.lst ys) -> Q (.ref r) H'
theorem same_upd {H : Hp} {p : Addr} (h : H p = none) (o : HO) : Same H (upd H p o) := fun b u q => by rw [upd_ne (ne_of_none q h)]; exact q
theorem Same.seqT {K : PySem.W.Frag} {H H' : Hp} {a : Addr} {xs : List V} (e : Same H H') (h : SqT K H a xs) : SqT K H' a xs := by
 rcases h with (h | ⟨o, h⟩) | h
 ·exact .inl (.inl (e _ _ h))
 ·exact .inl (.inr ⟨o, e _ _ h⟩)
 ·exact .inr h
theorem at_int {xs : List Int} {i : Nat} (h : i < xs.length) : atI (xs.map V.int) (i : Int) = some (V.int xs[i]) := atI_nat (by rw [List.getElem?_map, List.getElem?_eq_getElem h]; rfl)
theorem ixN_nat {n i : Nat} (h : i < n) : ixN n (i : Int) = some i := by
 unfold ixN
 rw [if_pos (by omega), if_pos (by omega)]; simp
theorem Same.more {H H' : Hp} {p : Addr} {o : HO} (e : Same H H') (h : H p = none) : Same H (L2.upd H' p o) := fun b u q => by rw [upd_ne (ne_of_none q h)]; exact e b u q
end L2
namespace L2
open PySem PySem.Spec PyProof.Rows
section
variable {κ : Type} [DecidableEq κ]
end
section
variable {P : Program} {w : World} {H : Hp} {h : Heap} {a : Addr}
end
section
variable {X : Cx} {pins : List (Addr × Obj)} {σ : St} {H : Hp} {s : Shared} {a : Addr} {y v : V} {u r : Value} {o : Option V} {A : Around} {E : Value -> Shared -> Prop}
end
section
variable {X : Cx} {pins : List (Addr × Obj)} {σ : St} {H : Hp} {s : Shared} {a : Addr} {kvs : List (Key × V)} {k : Key} {u : Value} {A : Around} {E : Value -> Shared -> Prop}
end
section
variable {X : Cx} {o i e value : Expr} {pos pos' tpos : Pos} {td ty tv : TE}
end
section
variable {X : Cx} {pos : Pos}
end
structure M2 (X : Cx) (o : Expr) (m : Str) (apos : Pos) (e f : Expr) (cpos : Pos) : Prop where
 base : attributeBase o m X.env (eval o X.env) = eval o X.env
 few : ((backTo cpos (starEach [e, f] X.env)).all (fun x => !x.1) && (backToKw cpos (keywordEach [] X.env)).all (fun x => x.1.isSome)
  && decide (([e, f] : List Expr).length + ([] : List Keyword).length + (if ([] : List Keyword).isEmpty then 0 else 1) < 30)) = true
 line : (apos.endLine == cpos.line) = true
 trees : backTo cpos (starEach [e, f] X.env) = [(false, eval e X.env), (false, eval f X.env)]
section
variable {X : Cx} {pins : List (Addr × Obj)} {σ : St} {H : Hp} {s : Shared} {a : Addr} {y d : V} {u r : Value} {o : Option V} {A : Around} {E : Value -> Shared -> Prop}
end
section
variable {X : Cx} {o e f : Expr} {apos cpos : Pos} {td ty tx : TE}
end
section
variable {X : Cx} {pins : List (Addr × Obj)} {σ : St} {H : Hp} {s : Shared} {a : Addr} {kvs : List (Key × V)} {A : Around} {E : Value -> Shared -> Prop}
end
section
variable {X : Cx} {pins : List (Addr × Obj)} {σ : St} {H : Hp} {s : Shared} {a : Addr} {y : V} {u : Value} {A : Around} {E : Value -> Shared -> Prop}
end
end L2
namespace L2
open PySem PySem.Spec PyProof.Rows
theorem ObjOk.ex {P : Program} {w : World} {H : Hp} {h : Heap} {a : Addr} {o : HO} (x : ObjOk P w H h a o) : ∃ ob, h.get? a = some ob := by
 cases o with
 | lst xs => obtain ⟨_, _, _, _, e⟩ := x; exact ⟨_, e⟩
 | tup xs => obtain ⟨_, _, _, ob, e, _⟩ := x; exact ⟨_, e⟩
 | dK kvs => obtain ⟨_, _, _, _, o, _, _, e, _⟩ := x; exact ⟨_, e⟩
 | dT kvs => obtain ⟨_, _, _, _, o, _, _, e, _⟩ := x; exact ⟨_, e⟩
 | set S n => obtain ⟨o, _, _, _, e, _⟩ := x; exact ⟨_, e⟩
 | ins C dx fs => obtain ⟨_, _, _, e, _⟩ := x; exact ⟨_, e⟩
 | own y => obtain ⟨_, e⟩ := x; exact ⟨_, e⟩
 | xd fs => obtain ⟨_, ⟨_, _, _, e, _⟩, _⟩ := x; exact ⟨_, e⟩
 | rng lo hi => obtain ⟨_, _, _, e⟩ := x; exact ⟨_, e⟩
 | frz ob u => obtain ⟨e, _⟩ := x; exact ⟨_, e⟩
 | tbl ps => exact ⟨_, (show h.get? a = some _ from x)⟩
 | met f y => exact ⟨_, (show h.get? a = some _ from x)⟩
 | ext φ => obtain ⟨_, e, _⟩ := x; exact e
structure Grd (P : Program) (w : World) (fs : List Addr) (H H' : Hp) (h B : Heap) : Prop where
 keep : ∀ b o, h.get? b = some o -> H b = none -> b ∉ fs -> B.get? b = some o
 there : ∀ b o, h.get? b = some o -> b ∉ fs -> ∃ o', B.get? b = some o'
 free : ∀ b o, h.get? b = some o -> H b = none -> H' b = none
 tups : ∀ b xs, H b = some (.tup xs) -> H' b = some (.tup xs)
 frzs : ∀ b o u, H b = some (.frz o u) -> H' b = some (.frz o u)
 tbls : ∀ b ps, H b = some (.tbl ps) -> ∃ more, H' b = some (.tbl (ps ++ more))
 hok : HOk P w H' B
def Slt (fs : List Addr) (h h' : Heap) : Prop := ∀ b o, h.get? b = some o -> b ∈ fs -> ∃ sl, h'.get? b = some { o with slots := sl }
theorem Grd.un {P : Program} {w : World} {fs : List Addr} {H H' : Hp} {h B h' : Heap} (G : Grd P w fs H H' h B) (st : B.StaysIn h') (sl : Slt fs h h') : Un fs [] H H' h h' :=
 ⟨fun b o q n hb _ => st b o (G.keep b o q n hb), fun b o q _ hb _ => sl b o q hb, fun b o q n _ => G.free b o q n, fun b o q _ => by
  by_cases hb : b ∈ fs
  ·obtain ⟨_, e⟩ := sl b o q hb
   exact ⟨_, e⟩
  ·obtain ⟨o', e⟩ := G.there b o q hb
   exact ⟨o', st b o' e⟩, G.tups, G.frzs, G.tbls⟩
def CXE (P : Program) (w : World) : CXT := fun outer H s E e s' => ∃ (a t C : Addr) (H' : Hp) (B : Heap), e = .ref a ∧ s'.os = s.os ∧ AllBare s'.gens ∧ Heap.FlyingW B outer a (.ref C) (.ref t) s'.heap ∧
 Grd P w (frs outer) H H' s.heap B ∧ Slt (frs outer) s.heap s'.heap ∧ E (.ref C) none H'
theorem passF {P : Program} {w : World} {X : Cx} : Passes (CXE P w) X E0 := fun _ _ _ _ _ _ _ h => by
 obtain ⟨_, _, _, _, _, _, _, _, _, _, _, q⟩ := h
 exact q.elim
structure Top1 (X : Cx) : Prop where
 st : X.stack = X.env :: X.outer
 fr : X.env.frame = some X.env.locals
section
variable {X : Cx} {pins : List (Addr × Obj)} {σ : St} {H H' : Hp} {s : Shared}
theorem Slt.up {h1 h2 : Heap} (I : Inv X pins σ H s) (a : Slt (frs X.stack) s.heap h1) (u : h1.UpToSlots h2) : Slt (frs X.stack) s.heap h2 := fun b o q hb => by
 obtain ⟨_, o', ho', hd⟩ := I.stack.mem hb
 rw [q] at ho'; cases ho'
 obtain ⟨_, e⟩ := a b o q hb
 obtain ⟨sl', e'⟩ := u b _ e hd
 exact ⟨sl', e'⟩
theorem HOk.hide {P : Program} {w : World} {h : Heap} {fs : List Addr} (x : HOk P w H h) (hf : ∀ b ∈ fs, H b = none) : HOk P w H (PySem.W.hideAll h fs) := fun a o e =>
 (x a o e).stay (fun b u hb q => PySem.W.hideAll_get _ q fun z => by
  have n := hf b z
  rcases hb with hb | hb
  ·rw [hb, e] at n; cases n
  ·rw [hb] at n; cases n) (fun _ q => q) fun _ _ q => q
end
section
variable {P : Program} {w : World} {K : PySem.W.Frag} {mg : Str -> Option Value} {base : Heap} {N : List Str} {qual : Str} {scope : Scope} {f : Addr} {cd : Value} {A : Around} {outer : List Env} {s0 : Shared} {H0 : Hp} {E : XK}
theorem nofr0 {pins : List (Addr × Obj)} {σ : St} {H : Hp} {s : Shared} (I : Inv (cxOf (CXE P w) P w K mg base N qual scope f cd A outer s0 H0 E) pins σ H s) {b : Addr} {o : Obj} (q : s0.heap.get? b = some o) (hb : b ∉ frs outer) :
  b ∉ frs (envOfC qual scope s0.heap.objs.size f cd :: outer) := fun z => by
 rcases List.mem_cons.mp (I.stkSub b z) with e | e
 ·exact absurd (Heap.lt_size q) (by rw [e]; exact Nat.not_lt.mpr I.ok.above)
 ·exact hb e
theorem throw_here {pins : List (Addr × Obj)} {σ : St} {H : Hp} {s : Shared} {h' : Heap} {a C : Addr} {args : List Value} (I : Inv (cxOf (CXE P w) P w K mg base N qual scope f cd A outer s0 H0 E) pins σ H s)
  (hx : Heap.MadeExcOf s.heap h' a (.ref C) args) (q : E (.ref C) none H) : (cxOf (CXE P w) P w K mg base N qual scope f cd A outer s0 H0 E).xe (.ref a) { s with heap := h' } := by
 have hfs : ∀ b ∈ frs (envOfC qual scope s0.heap.objs.size f cd :: outer), H b = none := I.stkFree
 have hin : ∀ env ∈ (envOfC qual scope s0.heap.objs.size f cd :: outer), ∀ b, env.frame = some b -> b ∈ frs (envOfC qual scope s0.heap.objs.size f cd :: outer) := fun env he b hb => List.mem_filterMap.mpr ⟨env, he, hb⟩
 have hst : s.heap.FunFrames base (envOfC qual scope s0.heap.objs.size f cd :: outer) := I.stack
 have noE : ∀ b : Addr, b ∉ (cxOf (CXE P w) P w K mg base N qual scope f cd A outer s0 H0 E).ex := fun b z => absurd (show b ∈ ([] : List Addr) from z) (by simp)
 refine wpAny_leaves_madeW (base := PySem.W.hideAll s.heap (frs (envOfC qual scope s0.heap.objs.size f cd :: outer))) I.ok.frames rfl (fun b o z => PySem.W.of_hideAll _ z) (PySem.W.funFrames_hide hst hin) hx fun h2 t fl _ _ up => ?_
 refine ⟨a, t, C, H, _, rfl, I.os, I.bare, fl, ⟨fun b o e n hb => ?_, fun b o e hb => ?_, fun b o e n => I.base.free b o e n (noE b), I.base.tups, I.base.frzs, I.base.tbls, I.hok.hide hfs⟩, fun b o e hb => ?_, q⟩
 ·exact PySem.W.hideAll_get _ (I.base.keep b o e n hb (noE b)) (nofr0 I e hb)
 ·obtain ⟨o', e'⟩ := I.base.there b o e (noE b)
  exact ⟨o', PySem.W.hideAll_get _ e' (nofr0 I e hb)⟩
 ·obtain ⟨_, o', ho', hd⟩ := I.ok.funs.mem hb
  rw [show (cxOf (CXE P w) P w K mg base N qual scope f cd A outer s0 H0 E).s₀.heap.get? b = some o from e] at ho'; cases ho'
  obtain ⟨sl, e1⟩ := I.base.slot b o e (I.ok.frf b hb) hb (noE b)
  obtain ⟨sl', e2⟩ := up b _ (hx.keeps _ _ e1) hd
  exact ⟨sl', e2⟩
theorem passE : Passes (CXE P w) (cxOf (CXE P w) P w K mg base N qual scope f cd A outer s0 H0 E) E := fun pins σ H s e s' I c => by
 obtain ⟨a, t, C, H', B, rfl, os, bare, fl, G, sl, q⟩ := c
 have noE : ∀ b : Addr, b ∉ (cxOf (CXE P w) P w K mg base N qual scope f cd A outer s0 H0 E).ex := fun b z => absurd (show b ∈ ([] : List Addr) from z) (by simp)
 refine wpAny_leaves_onW I.ok.frames rfl fl fun h2 fl2 up => ?_
 refine ⟨a, t, C, H', B, rfl, os.trans I.os, bare, fl2, ⟨fun b o e n hb => ?_, fun b o e hb => ?_, fun b o e n => ?_, fun b xs z => G.tups b xs (I.base.tups b xs z), fun b o u z => G.frzs b o u (I.base.frzs b o u z), fun b ps z => ?_, G.hok⟩, fun b o e hb => ?_, q⟩
 ·exact G.keep b o (I.base.keep b o e n hb (noE b)) (I.base.free b o e n (noE b)) (nofr0 I e hb)
 ·obtain ⟨o', e'⟩ := I.base.there b o e (noE b)
  exact G.there b o' e' (nofr0 I e hb)
 ·obtain ⟨o', e'⟩ := I.base.there b o e (noE b)
  exact G.free b o' e' (I.base.free b o e n (noE b))
 ·obtain ⟨m1, e1⟩ := I.base.tbls b ps z
  obtain ⟨m2, e2⟩ := G.tbls b _ e1
  exact ⟨m1 ++ m2, by rw [e2, Array.append_assoc]⟩
 ·obtain ⟨_, o', ho', hd⟩ := I.ok.funs.mem hb
  rw [show (cxOf (CXE P w) P w K mg base N qual scope f cd A outer s0 H0 E).s₀.heap.get? b = some o from e] at ho'; cases ho'
  obtain ⟨_, e1⟩ := I.base.slot b o e (I.ok.frf b hb) hb (noE b)
  obtain ⟨_, e2⟩ := sl b _ e1 (by show b ∈ frs (envOfC qual scope s0.heap.objs.size f cd :: outer); exact List.mem_cons_of_mem _ hb)
  obtain ⟨sl', e3⟩ := up b _ e2 hd
  exact ⟨sl', e3⟩
theorem Fun.okE {x : Str} {st : Stmt} {fd : FuncData} {ps : List Str} {k : Nat} {sp : Sp} (F : Fun K x qual st f fd) (S : FnScope N ps (defScope st)) (len : ∀ vs H Q E, sp vs H Q E -> vs.length = ps.length)
  (hbody : ∀ (cdv : Value) (A : Around) (outer : List Env) (s : Shared) (H : Hp) (vs : List V) (Q : VK) (E : XK), Room k (A.deeper (envOfC qual (defScope st) s.heap.objs.size f cdv)) -> sp vs H Q E ->
   ∃ t, PSs (cxOf (CXE P w) P w K mg base N qual (defScope st) f cdv A outer s H E) (defBody st) t ∧ t { nx := fun _ H' => Q .non H', rt := Q } (start N vs) H) : FnOk P w K mg base (CXE P w) (k + 1) f fd ps sp := by
 obtain ⟨oc, od, kV, doc, pm, an, cdv, ct, osl, rfl, lk, hcd⟩ := F.ex
 exact fn_of lk hcd S len fun A outer s H vs Q E hr hsp => hbody cdv A outer s H vs Q E hr hsp
end
theorem PS.nox {X : Cx} {st : Stmt} {t : TS} (h : PS X.nox st t) : PS X st t := fun pins s σ H D I hw =>
 wpAny_mono (h pins s σ H D (I.wish _) hw) (fun _ _ q => q.unwish) fun _ _ z => False.elim z
abbrev bmV : List Value := [.type "ValueError", .type "Exception", .type "BaseException", .type "object"]
theorem exc_obj {K : PySem.W.Frag} {C : Addr} (q : PySem.W.excIn K C bmV "ValueError.__new__" = true) : ∃ bm N nm qn bs hd sn sub ab col dd k0 k1 k2 k3 k5,
  K.lookup C = some (excClassObj nm qn C N bs bm hd sn sub ab col dd k0 k1 k2 k3 k5 "ValueError.__new__") ∧ PySem.W.tailIn K bmV bm = true ∧ PySem.W.nsOkIn K N = true ∧ PySem.W.nsIn K N "__init__" = some none := by
 unfold PySem.W.excIn at q
 split at q
 ·rename_i dd cd sl ho
  split at q
  ·rename_i C1 bm k0 k1 k2 k3 n k5 hm hs
   rw [Bool.and_eq_true, Bool.and_eq_true, Bool.and_eq_true, Bool.and_eq_true, Bool.and_eq_true] at q
   obtain ⟨⟨⟨⟨⟨q1, q2⟩, q3⟩, q4⟩, q5⟩, q6⟩ := q
   have r1 := beq_iff_eq.mp q1
   have r2 := beq_iff_eq.mp q2
   have r6 := beq_iff_eq.mp q6
   subst r1 r2
   obtain ⟨nm, bs, mro, ns, qn, hd, sn, sub, ab, col, del⟩ := cd
   simp only at hm q3 q5 r6
   have q3' : del = false := by cases del <;> simp at q3 ⊢
   subst hm q3'
   obtain ⟨l⟩ := sl
   simp only at hs
   subst hs
   exact ⟨bm, ns, nm, qn, bs, hd, sn, sub, ab, col, dd, k0, k1, k2, k3, k5, ho, q4, q5, r6⟩
  ·cases q
 ·cases q
def Throws (X : Cx) (E : XK) : Prop := ∀ (pins : List (Addr × Obj)) (σ : St) (H : Hp) (s : Shared) (h' : Heap) (a C : Addr) (args : List Value), Inv X pins σ H s -> Heap.MadeExcOf s.heap h' a (.ref C) args -> E (.ref C) none H -> X.xe (.ref a) { s with heap := h' }
theorem throwE {P : Program} {w : World} {K : PySem.W.Frag} {mg : Str -> Option Value} {base : Heap} {N : List Str} {qual : Str} {scope : Scope} {f : Addr} {cd : Value} {A : Around} {outer : List Env} {s0 : Shared} {H0 : Hp} {E : XK} :
  Throws (cxOf (CXE P w) P w K mg base N qual scope f cd A outer s0 H0 E) E := fun _ _ _ _ _ _ _ _ I hx q => throw_here I hx q
def tRaise (C : Addr) (ta : TA) (E : XK) : TS := fun _ σ H => ta σ H fun vs H1 => vs.length <= sizeLine ∧ E (.ref C) none H1
theorem a_raise {C : Addr} {ta : TA} {E : XK} {D : Ends} {σ : St} {H : Hp} : tRaise C ta E D σ H = ta σ H fun vs H1 => vs.length <= sizeLine ∧ E (.ref C) none H1 := rfl
theorem ps_raise {X : Cx} {E : XK} {x : Str} {C : Addr} {e0 : Expr} {ta : TA} {np cpos pos : Pos} (hc : X.calm = true) (hr : Throws X E) (hg : Gl X x) (hm : X.mg x = some (.ref C)) (hx : PySem.W.excIn X.K C bmV "ValueError.__new__" = true) (ha : PA X [e0] ta)
  (he : starEach [e0] X.env = [(false, eval e0 X.env)] := by rfl) (hpl : (backTo cpos (starEach [e0] X.env)).any (·.1) = false := by rfl) (hd : (x == ("__debug__" : Str)) = false := by decide) :
  PS X (.Raise (some (.Call (.Name x np) [e0] [] cpos)) none pos) (tRaise C ta E) := by
 intro pins s σ H D I h
 obtain ⟨bm, N, nm, qn, bs, hdc, sn, sub, ab, col, dd, k0, k1, k2, k3, k5, lk, tl, ok, ni⟩ := exc_obj hx
 have T0 : OwnTail s.heap bmV bm := PySem.W.tail_of_in I.kIn tl
 refine wpAny_Raise_call_subT (C := C) (nm := nm) (q := qn) (N := N) (bs := bs) (bm := bm) (hdct := hdc) (sn := sn) (sub := sub) (ab := ab) (col := col) (dd := dd) (k0 := k0) (k1 := k1) (k2 := k2) (k3 := k3) (k5 := k5)
  PySem.F.excBase_ValueError (mN := s.heap.nsMap N) (T0.hasType PySem.F.excBase_ValueError.hasBase) (I.ok.hd hc) hpl (PySem.W.nsMap_none_of_in I.kIn ok ni) (ld_glob I hg hm ⟨rfl, ?_⟩ hd)
 have ns0 : s.heap.Ns N (s.heap.nsMap N) := .of_isNs (PySem.W.isNs_of_in I.kIn ok)
 have h2 := ha cpos pins s σ H _ I h
 rw [he] at h2 ⊢
 refine Calls.evalArgs_plain (wpAny_mono h2 (fun vs s2 z => ?_) fun _ _ y => y)
 obtain ⟨xs, H1, I1, r1, q1, q2⟩ := z
 have eN : s.heap.nsMap N = s2.heap.nsMap N := by
  obtain ⟨o, es, ep, ho, hdt, _⟩ := id ns0
  unfold PySem.W.nsOkIn at ok
  split at ok
  ·rename_i z
   unfold Heap.nsMap
   rw [I.kIn _ _ z, I1.kIn _ _ z]
  ·cases ok
 refine ⟨rfl, by rw [← r1.length]; exact q1, I1.kIn _ _ lk, ?_, PySem.W.tail_of_in I1.kIn tl, fun h' a hm' => hr pins σ H1 s2 h' a C vs I1 hm' q2⟩
 rw [eN]; exact .of_isNs (PySem.W.isNs_of_in I1.kIn ok)
end L2
namespace L2
open PySem PySem.Spec PyProof.Rows
def IsExc (a C : Addr) : HO := .ext fun h => ∃ oe vs, h.get? a = some oe ∧ oe.cls = .ref C ∧ oe.data = .fields vs
abbrev Cx.hdl (X : Cx) (a : Addr) : Cx := { X with A := X.A.mark (some (.ref a)), calm := false, xe := fun _ _ => False }
section
variable {X : Cx} {pins : List (Addr × Obj)} {σ : St} {H H' : Hp} {s : Shared} {a : Addr}
theorem Inv.hdl (I : Inv X pins σ H s) (a : Addr) : Inv (X.hdl a) pins σ H s :=
 ⟨⟨I.ok.mod, I.ok.kind, I.ok.glob, I.ok.blt, I.ok.above, I.ok.inj, I.ok.has, I.ok.cab, (fun z => nomatch z), I.ok.frames, I.ok.stk, I.ok.exf, I.ok.bs, I.ok.bsz, I.ok.noex, I.ok.exfs, I.ok.funs, I.ok.frf⟩, I.os, I.bare, I.base, I.loc, I.cell, I.free, I.freeC, I.pin, I.hok, I.len⟩
theorem Inv.unhdl (I : Inv (X.hdl a) pins σ H s) (ok : X.Ok) : Inv X pins σ H s := ⟨ok, I.os, I.bare, I.base, I.loc, I.cell, I.free, I.freeC, I.pin, I.hok, I.len⟩
end
theorem exc_mro {K : PySem.W.Frag} {C : Addr} {b : Value} {r : Bool} {nm q : Str} {N : Addr} {bs bm : List Value} {hd : Bool} {sn : List Str} {sub : List Value} {ab : Bool} {col : Option Bool} {dd : Option Addr} {k0 k1 k2 k3 k5 : Option Value} {nid : String}
  (lk : K.lookup C = some (excClassObj nm q C N bs bm hd sn sub ab col dd k0 k1 k2 k3 k5 nid)) (e : PySem.W.mroIn K C b = some r) : (Value.ref C :: bm).contains b = r := by
 obtain ⟨cd, a, e2⟩ := Option.bind_eq_some_iff.mp e
 unfold PySem.W.clsIn at a
 rw [lk] at a
 simp only [excClassObj, Option.some.injEq] at a
 subst a
 simpa using e2
theorem matches_up {M : Model} {A : Around} {E : Value -> Shared -> Prop} {Q : Bool -> Shared -> Prop} {h : Heap} {g : Array GenState} {d : Drawn} {t : Nat} {os : OsState} {a C D : Addr} {oe : Obj}
  {nm q : Str} {N : Addr} {bs bm : List Value} {hd : Bool} {sn : List Str} {sub : List Value} {ab : Bool} {col : Option Bool} {dd : Option Addr} {k0 k1 k2 k3 k5 : Option Value} {nid : String}
  {nm' q' : Str} {N' : Addr} {bs' bm' : List Value} {hd' : Bool} {sn' : List Str} {sub' : List Value} {ab' : Bool} {col' : Option Bool} {dd' : Option Addr} {k0' k1' k2' k3' k5' : Option Value} {nid' : String}
  (hC : h.get? C = some (excClassObj nm q C N bs bm hd sn sub ab col dd k0 k1 k2 k3 k5 nid)) (hD : h.get? D = some (excClassObj nm' q' D N' bs' bm' hd' sn' sub' ab' col' dd' k0' k1' k2' k3' k5' nid'))
  (ha : h.get? a = some oe) (hcls : oe.cls = .ref C) (hb : (Value.ref D :: bm').contains (.type "BaseException") = true) (hs : (Value.ref C :: bm).contains (.ref D) = true) (hq : Q true ⟨h, g, d, t, os⟩) :
  wpAny M A (excMatches (.ref a) (.ref D)) Q E ⟨h, g, d, t, os⟩ := by
 have f := tc_notTuple
 unfold excMatches
 repeat (first | (with_reducible refine wpAny_loadPart_at ha ?_; rw [hcls]) | with_reducible refine wpAny_loadPart_at hD ?_ | (with_reducible refine wpAny_isSubtype_exc hD ?_; rw [hb]) | (with_reducible refine wpAny_isSubtype_exc hC ?_; rw [hs]) | wp_step)
 exact hq
structure Catches (K : PySem.W.Frag) (C D : Addr) : Prop where
 c : PySem.W.excIn K C bmV "ValueError.__new__" = true
 d : PySem.W.excIn K D bmV "ValueError.__new__" = true
 base : PySem.W.mroIn K D (.type "BaseException") = some true
 sub : PySem.W.mroIn K C (.ref D) = some true
theorem matches_ok {K : PySem.W.Frag} {C D a : Addr} {oe : Obj} {M : Model} {A : Around} {E : Value -> Shared -> Prop} {Q : Bool -> Shared -> Prop} {s : Shared} (k : Catches K C D) (X : K.In s.heap) (ha : s.heap.get? a = some oe) (hcls : oe.cls = .ref C) (hq : Q true s) :
  wpAny M A (excMatches (.ref a) (.ref D)) Q E s := by
 obtain ⟨bm, N, nm, qn, bs, hdc, sn, sub, ab, col, dd, k0, k1, k2, k3, k5, lk, _⟩ := exc_obj k.c
 obtain ⟨bm', N', nm', qn', bs', hdc', sn', sub', ab', col', dd', k0', k1', k2', k3', k5', lk', _⟩ := exc_obj k.d
 obtain ⟨h, g, d, t, os⟩ := s
 exact matches_up (X _ _ lk) (X _ _ lk') ha hcls (exc_mro lk' k.base) (exc_mro lk k.sub) hq
section
variable {X : Cx} {pins : List (Addr × Obj)} {σ : St} {H H' : Hp} {s s2 : Shared} {a t C : Addr} {B : Heap}
theorem exc_new (I : Inv X pins σ H s) (fl : Heap.FlyingW B X.stack a (.ref C) (.ref t) s2.heap) (G : Grd X.prog X.w (frs X.stack) H H' s.heap B) (sl : Slt (frs X.stack) s.heap s2.heap) : s.heap.get? a = none ∧ H' a = none := by
 constructor
 ·cases q : s.heap.get? a with
  | none => rfl
  | some o =>
   by_cases hb : a ∈ frs X.stack
   ·obtain ⟨_, o', ho', hd⟩ := I.stack.mem hb
    rw [q] at ho'; cases ho'
    obtain ⟨sl', e⟩ := sl a o q hb
    obtain ⟨oe, vs, he, _, hdd, _⟩ := fl.first
    rw [e] at he; cases he
    exact absurd hdd (hd vs)
   ·obtain ⟨o', e⟩ := G.there a o q hb
    rw [fl.2.1] at e; cases e
 ·cases q : H' a with
  | none => rfl
  | some u =>
   obtain ⟨ob, e⟩ := (G.hok a u q).ex
   rw [fl.2.1] at e; cases e
theorem landed {s3 : Shared} (I : Inv X pins σ H s) (os : s3.os = s.os) (bare : AllBare s3.gens) (fl : Heap.FlyingW B X.stack a (.ref C) (.ref t) s3.heap) (G : Grd X.prog X.w (frs X.stack) H H' s.heap B) (sl : Slt (frs X.stack) s.heap s3.heap) :
  Inv X pins σ (upd H' a (IsExc a C)) s3 := by
 obtain ⟨n1, n2⟩ := exc_new I fl G sl
 have u := G.un fl.1 sl
 have ne : ∀ b o, s.heap.get? b = some o -> b ≠ a := fun b o q z => by rw [z, n1] at q; cases q
 have neH : ∀ b o, H' b = some o -> b ≠ a := fun b o q z => by rw [z, n2] at q; cases q
 have neH0 : ∀ b o, H b = some o -> b ≠ a := fun b o q => by
  obtain ⟨ob, e⟩ := (I.hok b o q).ex
  exact ne b ob e
 refine I.call' (ch := []) os ⟨u.keep, u.slot, fun b o q n hx => by rw [upd_ne (ne b o q)]; exact u.free b o q n hx, u.there, fun b xs q => by rw [upd_ne (neH0 b _ q)]; exact u.tups b xs q, fun b o w q => by rw [upd_ne (neH0 b _ q)]; exact u.frzs b o w q, fun b ps q => by rw [upd_ne (neH0 b _ q)]; exact u.tbls b ps q⟩ (fun b w e => ?_) bare (fun _ z => nomatch z)
 by_cases hb : b = a
 ·subst hb
  rw [upd_same] at e; cases e
  obtain ⟨oe, vs, h1, h2, h3, _⟩ := fl.first
  exact ⟨⟨oe, vs, h1, h2, h3⟩, ⟨oe, h1⟩, fun h1 h2 ⟨o1, w1, p, q, r⟩ k => ⟨o1, w1, k _ p, q, r⟩⟩
 ·rw [upd_ne hb] at e
  exact (G.hok b w e).stay (fun c v _ q => fl.1 c v q) (fun c q => by rw [upd_ne (neH c _ q)]; exact q) fun c xs q => by rw [upd_ne (neH c _ q)]; exact q
end
def PXE (X : Cx) (e : Expr) (t : XK -> TE) : Prop := ∀ (pins : List (Addr × Obj)) (s : Shared) (σ : St) (H : Hp) (Q : VK) (E : XK), Inv X pins σ H s -> t E σ H Q ->
 wpAny (model X.prog X.w) X.A (eval e X.env) (EP X pins σ Q) (fun x s' => ∃ H1 s1, Inv X pins σ H1 s1 ∧ CXE X.prog X.w X.stack H1 s1 E x s') s
def PX (X : Cx) (st : Stmt) (t : XK -> TS) : Prop := ∀ (pins : List (Addr × Obj)) (s : Shared) (σ : St) (H : Hp) (D : Ends) (E : XK), Inv X pins σ H s -> t E D σ H ->
 wpAny (model X.prog X.w) X.A (exec st X.env) (SP X pins D) (fun x s' => ∃ H1 s1, Inv X pins σ H1 s1 ∧ CXE X.prog X.w X.stack H1 s1 E x s') s
section
variable {X : Cx} {k : Nat} {f : Addr} {fd : FuncData} {ps : List Str} {sp : Sp} {x : Str} {p pos : Pos} {e : Expr} {es : List Expr} {t : TA}
theorem px_expr {te : XK -> TE} (he : PXE X e te) (hs : swapsWith e none pos.line X.env = pure false := by rfl) : PX X (.Expr e pos) (fun E => tDrop (te E)) := by
 intro pins s σ H D E I h
 exact wpAny_Expr_any (thn (he pins s σ H _ E I h) fun v s1 ⟨y, H1, I1, r1, q1⟩ => ⟨σ, H1, I1, q1⟩) I.quiet hs
end
def tTry (K : PySem.W.Frag) (Dc : Addr) (t : XK -> TS) (th : TS) : TS := fun D σ H => t (fun c _ H1 => ∃ C, c = .ref C ∧ Catches K C Dc ∧ ∀ a, H1 a = none -> th D σ (upd H1 a (IsExc a C))) D σ H
theorem a_try {K : PySem.W.Frag} {Dc : Addr} {t : XK -> TS} {th : TS} {D : Ends} {σ : St} {H : Hp} : tTry K Dc t th D σ H = t (fun c _ H1 => ∃ C, c = .ref C ∧ Catches K C Dc ∧ ∀ a, H1 a = none -> th D σ (upd H1 a (IsExc a C))) D σ H := rfl
section
variable {X : Cx} {st b0 : Stmt} {suite : List Stmt} {t : XK -> TS} {th : TS} {x n : Str} {Dc : Addr} {np hpos pos : Pos}
end
theorem gone {X : Cx} {pins : List (Addr × Obj)} {σ : St} {H : Hp} {s : Shared} {M : Model} {A : Around} {E : Value -> Shared -> Prop} {i : Nat} {n : Str} {pos : Pos} {Q : Unit -> Shared -> Prop} (I : Inv X pins σ H s) (hN : X.N.Nodup) (hi : X.N[i]? = some n)
  (hl : X.env.scope.names.lookup n = some .local) (h : ∀ s', Inv X pins (σ.set i none) H s' -> Q () s') : wpAny M A (do bindName X.env n .none; unbindBehindTheSuite X.env n pos) Q E s := by
 obtain ⟨m, hn, hlk⟩ := id I.loc
 have hp : (X.env.scope.kind == .class || (X.env.scope.kind == .module && X.env.locals != X.env.globals)) = false := by rw [I.ok.kind]; rfl
 refine wpAny_nameGoes_keeps hl hn hp fun h' v hn' hs => h _ ?_
 have cne := I.cne
 have low : ∀ b o, X.s₀.heap.get? b = some o -> b ≠ X.env.locals := fun b o e => Nat.ne_of_lt (Nat.lt_of_lt_of_le (Heap.lt_size e) I.ok.above)
 have tracked : HOk X.prog X.w H h' := fun b ob e => by
  refine (I.hok b ob e).stay (fun c w' hc q => (hs.2 c ?_).trans q) (fun _ q => q) fun _ _ q => q
  intro z
  have fr := I.free
  rcases hc with hc | hc
  ·rw [← hc, z, fr] at e; cases e
  ·rw [z, fr] at hc; cases hc
 refine ⟨I.ok, I.os, I.bare, ⟨fun b o e n hb hx => ?_, fun b o e n hb hx => ?_, I.base.free, fun b o e hx => ?_, I.base.tups, I.base.frzs, I.base.tbls⟩, ⟨_, hn', fun j y v' e1 e2 e3 => ?_⟩, fun y c e => ?_, I.free, I.freeC, fun p hp => ?_, tracked, by rw [List.length_set]; exact I.len⟩
 ·exact (hs.2 b (low b o e)).trans (I.base.keep b o e n hb hx)
 ·obtain ⟨sl, e1⟩ := I.base.slot b o e n hb hx
  exact ⟨sl, (hs.2 b (low b o e)).trans e1⟩
 ·obtain ⟨o', e1⟩ := I.base.there b o e hx
  exact ⟨o', (hs.2 b (low b o e)).trans e1⟩
 ·have hij : j ≠ i := fun z => by
   subst z
   rw [List.getElem?_set] at e2
   simp only [if_true] at e2
   split at e2 <;> cases e2
  rw [List.getElem?_set_ne (Ne.symm hij)] at e2
  have hyn : y ≠ n := fun z => hij (nodup_ix hN e1 (by rw [z]; exact hi))
  obtain ⟨u, r, q⟩ := hlk j y v' e1 e2 e3
  refine ⟨u, r, ?_⟩
  rcases q with ⟨k, e⟩ | ⟨k, c, e, z⟩
  ·exact .inl ⟨k, by show (if y = n then v else m y) = some u; rw [if_neg hyn]; exact e⟩
  ·exact .inr ⟨k, c, e, z.sameBut hs (cne _ c e)⟩
 ·obtain ⟨w', z⟩ := I.cell y c e
  exact ⟨w', z.sameBut hs (cne y c e)⟩
 ·obtain ⟨e, n, ne, nf, d⟩ := I.pin p hp
  exact ⟨(hs.2 p.1 ne).trans e, n, ne, nf, d⟩
def Ends.drop (D : Ends) (i : Nat) : Ends := { nx := fun σ H => D.nx (σ.set i none) H, rt := D.rt, bk := fun σ H => D.bk (σ.set i none) H, ct := fun σ H => D.ct (σ.set i none) H }
def tTryAs (K : PySem.W.Frag) (Dc : Addr) (i : Nat) (t : XK -> TS) (th : TS) : TS := fun D σ H => t (fun c _ H1 => ∃ C, c = .ref C ∧ Catches K C Dc ∧ ∀ a, H1 a = none -> th (D.drop i) (σ.set i (some (.ref a))) (upd H1 a (IsExc a C))) D σ H
theorem a_tryAs {K : PySem.W.Frag} {Dc : Addr} {i : Nat} {t : XK -> TS} {th : TS} {D : Ends} {σ : St} {H : Hp} : tTryAs K Dc i t th D σ H = t (fun c _ H1 => ∃ C, c = .ref C ∧ Catches K C Dc ∧ ∀ a, H1 a = none -> th (D.drop i) (σ.set i (some (.ref a))) (upd H1 a (IsExc a C))) D σ H := rfl
theorem a_drop_nx {D : Ends} {i : Nat} {σ : St} {H : Hp} : (D.drop i).nx σ H = D.nx (σ.set i none) H := rfl
section
variable {X : Cx} {st b0 : Stmt} {suite : List Stmt} {t : XK -> TS} {th : TS} {x n : Str} {Dc : Addr} {np hpos pos : Pos} {i : Nat}
theorem ps_tryAs (T1 : Top1 X) (h1 : PX X st t) (hg : Gl X x) (hm : X.mg x = some (.ref Dc)) (hN : X.N.Nodup) (hi : X.N[i]? = some n) (hl : X.env.scope.names.lookup n = some .local) (hs : ∀ a, PSs (X.hdl a) (b0 :: suite) th) (hd : (x == ("__debug__" : Str)) = false := by decide) :
  PS X (.Try [st] [.ExceptHandler (some (.Name x np)) (some n) (b0 :: suite) hpos] [] [] pos) (tTryAs X.K Dc i t th) := by
 intro pins s σ H D I h
 have hfr : X.A.frames = some (X.env :: X.outer) := by rw [I.ok.frames, T1.st]
 refine wpAny_Try_except (wpAny_mono (wpAny_execs_cons (thn (h1 pins s σ H D _ I h) fun f s1 q => ?_)) (fun _ _ y => y) fun e s2 q => ?_)
 ·cases f with
  | next => exact wpAny_execs_nil (wpAny_execs_nil q)
  | ret v => exact q
  | brk => exact q
  | cont => exact q
 ·obtain ⟨H1, s1, I1, a, tt, C, H', B, rfl, os, bare, fl, G, sl, Cc, eC, kc, qh⟩ := q
  cases eC
  have fl0 : Heap.FlyingW B (X.env :: X.outer) a (.ref C) (.ref tt) s2.heap := by rw [← T1.st]; exact fl
  refine wpAny_looks_onW hfr T1.fr fl0 fun h4 held4 up4 => ?_
  refine wpAny_landsW held4 fun h5 fl5 up5 => ?_
  have sl5 := (sl.up I1 up4).up I1 up5
  have fl5' : Heap.FlyingW B X.stack a (.ref C) (.ref tt) h5 := by rw [T1.st]; exact fl5
  have J5 : Inv X pins σ (upd H' a (IsExc a C)) { s2 with heap := h5 } := landed (s3 := { s2 with heap := h5 }) I1 os bare fl5' G sl5
  refine wpAny_handleBy_cons (codeAny_handlers_test (ld_glob (X := X.hdl a) (J5.hdl a) hg hm ?_ hd)) (by intro q; cases q)
  obtain ⟨oe, vs, ho, hoc, _⟩ := fl5.first
  refine matches_ok kc J5.kIn ho hoc ?_
  refine codeAny_handlers_suite_as (lands_againW fl5 fun h6 fl6 up6 => ?_)
  have fl6' : Heap.FlyingW B X.stack a (.ref C) (.ref tt) h6 := by rw [T1.st]; exact fl6
  have J6 : Inv X pins σ (upd H' a (IsExc a C)) { s2 with heap := h6 } := landed (s3 := { s2 with heap := h6 }) I1 os bare fl6' G (sl5.up I1 up6)
  refine store_ok (X := X.hdl a) (J6.hdl a) hN hi (.inl hl) (v := .ref a) rfl (fun s7 J7 => ?_) (.inr hl)
  refine wpAny_mono (hs a pins s7 _ _ (D.drop i) J7 (qh a (exc_new I1 fl G sl).2)) (fun f s8 z => ?_) fun _ _ z => False.elim z
  cases f with
  | next => obtain ⟨σ', H3, I3, q⟩ := z; exact gone (I3.unhdl I.ok) hN hi hl fun s9 I9 => ⟨_, H3, I9, q⟩
  | brk => obtain ⟨σ', H3, I3, q⟩ := z; exact gone (I3.unhdl I.ok) hN hi hl fun s9 I9 => ⟨_, H3, I9, q⟩
  | cont => obtain ⟨σ', H3, I3, q⟩ := z; exact gone (I3.unhdl I.ok) hN hi hl fun s9 I9 => ⟨_, H3, I9, q⟩
  | ret u => obtain ⟨v, σ', H3, I3, r, q⟩ := z; exact gone (I3.unhdl I.ok) hN hi hl fun s9 I9 => ⟨v, _, H3, I9, r, q⟩
end
end L2
namespace L2
open PySem PySem.Spec PySem.W PyProof.Rows Builtin Builtin.ObjectAttr Builtin.Getset_descriptor
def ExAt (x C : Addr) (h : Heap) : Prop := ∃ o vs, h.get? x = some o ∧ o.cls = .ref C ∧ o.data = .fields vs
theorem exAt_ty {x C : Addr} (M : Model) (h : Heap) (p : ExAt x C h) : Looks M h (typeOf (.ref x)) (.ref C) := by
 obtain ⟨o, vs, h1, h2, _⟩ := p
 exact h2 ▸ (Looks.ld h1).andThen .now
structure ExCls (K : PySem.W.Frag) (C : Addr) : Prop where
 x : excIn K C bmV "ValueError.__new__" = true
 ga : findIn K (.ref C) "__getattribute__" = some (some (.builtin "BaseException.__getattribute__"))
 gn : findIn K (.ref C) "__getattr__" = some none
 cl : findIn K (.ref C) "__class__" = some (some (.builtin "object.__class__"))
 ob : mroIn K C (.type "object") = some true
 be : mroIn K C (.type "BaseException") = some true
 dg : specialIn K (.builtin "object.__class__") "__get__" = some (some (.builtin "getset_descriptor.__get__"))
 dt : takesIn K (.builtin "object.__class__") = some true
section
variable {prog : Program} {w : World} {A : Around} {E : Value -> Shared -> Prop} {s : Shared} {K : PySem.W.Frag} {x C : Addr}
theorem exc_class_get {tp : Value} {R : Result -> Shared -> Prop} (X : K.In s.heap) (p : ExAt x C s.heap) (hm : mroIn K C (.type "object") = some true) (h : R (.ok (.ret (.ref C))) s) :
  codeAny (model prog w) A (.call (.builtin "getset_descriptor.__get__") ⟨[.builtin "object.__class__", .ref x, tp], []⟩) R s := by
 obtain ⟨h0, g0, d0, t0, o0⟩ := s
 have L0 := exAt_ty (model prog w) h0 p; have L1 := looks_mroIn (M := model prog w) X hm
 refine codeAny_call_builtin KF.slot_gs.plain KF.entry_gs (KF.slot_gs.check _ _ _ _ _ _ _ _ KF.type_class (KF.args_gs _ _ _) ?_); unfold Builtin.«getset_descriptor.__get__» descrGet; rw [dga_obj]
 refine wpAny_bind (wpAny_pure ?_); unfold descrGetter descrCheckInstance descrNameAndClass isInstance; simp only [KF.owner_class]; repeat lk
 refine ⟨Code.quiet_builtin _ (by decide +kernel), codeAny_builtin KF.entry_class ?_⟩; unfold Builtin.«object.__class__» shownTypeOf; repeat lk
 exact h
theorem exc_check {nameV : Value} {M : Model} {Q : Unit -> Shared -> Prop} (X : K.In s.heap) (p : ExAt x C s.heap) (hm : mroIn K C (.type "BaseException") = some true) (hq : Q () s) :
  wpAny M A (checkBuiltinCall "BaseException.__getattribute__" ⟨[.ref x, nameV], []⟩) Q E s := by
 have e1 : builtinKind "BaseException.__getattribute__" = some .slot := by decide +kernel
 have e2 : splitId "BaseException.__getattribute__" = some ("BaseException", "__getattribute__") := by decide +kernel
 have e3 := PySem.F.args_bexc_ga (.ref x) nameV
 obtain ⟨h0, g0, d0, t0, o0⟩ := s
 have L0 := exAt_ty M h0 p; have L1 := looks_mroIn (M := M) X hm
 simp only [checkBuiltinCall, e1, e2]; refine wpAny_bind ?_; unfold isInstance
 repeat (first | lk | wp_step)
 exact hq
theorem exc_find {M : Model} (X : K.In s.heap) (k : ExCls K C) : Looks M s.heap (find (.ref x) (.ref C) "__class__") (.bind (.builtin "getset_descriptor.__get__") (.builtin "object.__class__")) := by
 have L1 := looks_findIn (M := M) X k.cl
 have L2 := looks_specialIn (M := M) X k.dg
 have L3 := looks_takesIn (M := M) X k.dt
 exact L1.andThen ((show Looks M s.heap (getOf (some (.builtin "object.__class__"))) (some (.builtin "getset_descriptor.__get__")) from L2).andThen ((show Looks M s.heap (dataDescriptor? (some (.builtin "object.__class__")) (some (.builtin "getset_descriptor.__get__"))) (some (.builtin "getset_descriptor.__get__", .builtin "object.__class__")) from L3.andThen .now).andThen (Looks.tag .now)))
theorem exc_class_attr {Q : Option Value -> Shared -> Prop} (X : K.In s.heap) (p : ExAt x C s.heap) (k : ExCls K C) (h : Q (some (.ref C)) { s with toks := s.toks + 1 }) :
  wpAny (model prog w) A (getAttr? (.ref x) "__class__") Q E s := by
 have L0 := exAt_ty (model prog w) s.heap p
 have L1 := looks_findIn (M := model prog w) X k.ga
 have L2 := looks_findIn (M := model prog w) X k.gn
 have L3 := exc_find (M := model prog w) (x := x) X k
 obtain ⟨h0, g0, d0, t0, o0⟩ := s
 unfold getAttr? getAttrBy? getAttrBy
 refine wpAny_bind (wpAny_mkText (wpAny_bind (wpAny_attempt (wpAny_holding (wpAny_bind (L0.at (wpAny_bind (L1.at ?_))))))))
 dsimp only
 rw [if_neg (by rw [show (Value.builtin "BaseException.__getattribute__" == Value.builtin "object.__getattribute__") = false by decide +kernel, Bool.and_false]; decide)]
 unfold getAttrByItsOwn hookBefore
 refine wpAny_bind ?_
 rw [if_pos (show onTheHeap (Value.ref C) = true from rfl)]
 refine L2.at ?_
 refine wpAny_bind (wpAny_attempt (wpAny_holding ?_))
 unfold callGetattribute boundAndCalled
 rw [if_neg (by decide)]
 refine wpAny_bind (wpAny_of_eq (PySem.F.attr_ValueError.ga.bind (.ref x)) ?_)
 refine wpAny_call (codeAny_call_builtin PySem.F.attr_ValueError.ga.plain PySem.F.entry_bexc_ga (exc_check (s := ⟨h0, g0, d0, t0 + 1, o0⟩) X p k.be ?_))
 unfold Builtin.«object.__getattribute__»
 iterate 23 (first | lk | wp_step)
 refine wpAny_call (exc_class_get (s := ⟨h0, g0, d0, t0 + 1, o0⟩) X p k.ob ?_)
 exact wpAny_pure (handed_on rfl (wpAny_pure h))
theorem kitx_exc (k : ExCls K C) : KitX K (.ref x) (.ref C) (ExAt x C) where
 ty := fun M h _ p => exAt_ty M h p
 it := fun _ h X _ => by
  obtain ⟨_, _, _, _, _, _, _, _, _, _, _, _, _, _, _, _, lk, _⟩ := exc_obj k.x
  intro A' Q' E' s' kk q
  unfold isType loadHead
  exact wpAny_bind (wpAny_loadPart (kk _ _ (X _ _ lk)) (wpAny_pure q))
 ne := fun h tp dd its n sl X htp => by
  obtain ⟨_, _, _, _, _, _, _, _, _, _, _, _, _, _, _, _, lk, _⟩ := exc_obj k.x
  refine Bool.eq_false_iff.mpr fun q => ?_
  have e : C = tp := Value.ref.inj (beq_iff_eq.mp q)
  subst e
  have z := congrArg (fun o : Option Obj => o.map (·.cls)) ((X _ _ lk).symm.trans htp)
  simp [excClassObj] at z
 ca := fun X p h => exc_class_attr X p k h
end
theorem call_isinstE {X : Cx} : CallR X (.builtin "isinstance") (fun xs H Q => ∃ a C D vD b, xs = [.ref a, vD] ∧ RelV vD D ∧ H a = some (IsExc a C) ∧ ExCls X.K C ∧ kitOne X.K (.ref C) D = some b ∧ Q (.bl b) H) := by
 intro pins s σ H xs us Q I rv h
 obtain ⟨a, C, D, vD, b, rfl, rD, hE, kC, e, q⟩ := h
 cases rv with
 | cons r rr =>
  cases rr with
  | cons r' rr =>
   cases rr
   cases (show _ = Value.ref a from r)
   rename_i u
   have eD : D = u := by
    cases vD with
    | ref d => exact (show D = Value.ref d from rD).trans (show _ = Value.ref d from r').symm
    | ty n => exact (show D = Value.type n from rD).trans (show _ = Value.type n from r').symm
    | non => exact (show D = Value.none from rD).trans (show _ = Value.none from r').symm
    | bl z => exact (show D = Value.bool z from rD).trans (show _ = Value.bool z from r').symm
    | int i => obtain ⟨t, z⟩ := rD; rw [z] at e; simp [kitOne, kitCls] at e
    | str i => obtain ⟨t, z⟩ := rD; rw [z] at e; simp [kitOne, kitCls] at e
    | byt i => obtain ⟨t, z⟩ := rD; rw [z] at e; simp [kitOne, kitCls] at e
    | flt i => obtain ⟨t, z⟩ := rD; rw [z] at e; simp [kitOne, kitCls] at e
   rw [← eD]
   obtain ⟨p, _, _⟩ := (show ObjOk X.prog X.w H s.heap a (IsExc a C) from I.hok a _ hE)
   exact kia_one (kitx_exc kC) I.kIn p e (fun z => nomatch z) fun tk => ⟨.bl b, H, I.tok _, rfl, q⟩
end L2
namespace L2
open PySem PySem.Spec PyProof.Rows
section
variable {X : Cx} {e st : Expr} {te : TE} {lo hi : Option Expr} {tl th ts : TO} {pos p2 : Pos}
end
end L2
namespace L2
open PySem PySem.Spec PyProof.Rows
section
variable {X : Cx} {elt iter cnd : Expr} {x : Str} {px : Pos} {fv : List (Nat × Str)} {scope : Scope} {cl : List (Str × Addr)} {pos : Pos} {te : TE} {tt : TT} {wi : TI}
def CLoopIf (J : It) (fv : List (Nat × Str)) (tt : TT) (te : TE) (Q : VK) (σ : St) (H1 : Hp) (D : Addr) : Prop := ∃ W : Nat -> Nat -> Hp -> Prop, (∃ m, W 0 m (upd H1 D (.lst []))) ∧ ∀ i m H, W i m H ->
 (J.stop i H ∧ Q (.ref D) H) ∨ (J.go i H ∧ ∃ N : Hp -> Prop, (∀ H', N H' -> ∃ m', m' < m ∧ W (i + 1) m' H') ∧ ∀ v H', J.yld i H v H' -> tt (bst fv σ (some v)) H' fun b Hb => if b = true then te (bst fv σ (some v)) Hb fun y H2 => ∃ ys, H2 D = some (.lst ys) ∧ ys.length < sizeLine ∧ N (upd H2 D (.lst (ys ++ [y]))) else N Hb)
def tCompIf (fv : List (Nat × Str)) (wi : TI) (tt : TT) (te : TE) : TE := fun σ H Q => wi σ H fun J H1 => ∀ D, H1 D = none -> CLoopIf J fv tt te Q σ H1 D
end
theorem a_compIf {fv : List (Nat × Str)} {wi : TI} {tt : TT} {te : TE} {σ : St} {H : Hp} {Q : VK} : tCompIf fv wi tt te σ H Q = wi σ H fun J H1 => ∀ D, H1 D = none -> CLoopIf J fv tt te Q σ H1 D := rfl
end L2
namespace L2
open PySem PySem.Spec PyProof.Rows
def tFst (x : Str) (te : TE) : TE := fun σ H Q => (Str.empty ++ x).length <= sizeLine ∧ te σ H fun v H1 => ∃ i, v = .int i ∧ i.natAbs.log2 < 1920 ∧ (Str.empty ++ x ++ Str.ofString (toString i)).length <= sizeLine ∧ Q (.str (Str.empty ++ x ++ Str.ofString (toString i))) H1
theorem a_fst {x : Str} {te : TE} {σ : St} {H : Hp} {Q : VK} : tFst x te σ H Q = ((Str.empty ++ x).length <= sizeLine ∧ te σ H fun v H1 => ∃ i, v = .int i ∧ i.natAbs.log2 < 1920 ∧ (Str.empty ++ x ++ Str.ofString (toString i)).length <= sizeLine ∧ Q (.str (Str.empty ++ x ++ Str.ofString (toString i))) H1) := rfl
end L2
namespace L2
open PySem PySem.Spec PyProof.Rows
def bst2 (fv : List (Nat × Str)) (σ : St) (v v2 : Option V) : St := v :: v2 :: fv.map fun p => (σ[p.1]?).getD none
section
variable {X : Cx} {elt iter : Expr} {x z : Str} {px pz : Pos} {tk : Nat} {tpos : Pos} {fv : List (Nat × Str)} {scope : Scope} {cl : List (Str × Addr)} {pos : Pos} {te : TE} {wi : TI}
def CLoop2 (K : PySem.W.Frag) (J : It) (fv : List (Nat × Str)) (te : TE) (Q : VK) (σ : St) (H1 : Hp) (D : Addr) : Prop := ∃ W : Nat -> Nat -> Hp -> Prop, (∃ m, W 0 m (upd H1 D (.lst []))) ∧ ∀ i m H, W i m H ->
 (J.stop i H ∧ Q (.ref D) H) ∨ (J.go i H ∧ ∃ N : Hp -> Prop, (∀ H', N H' -> ∃ m', m' < m ∧ W (i + 1) m' H') ∧ ∀ v H', J.yld i H v H' -> ∃ q x1 x2, v = .ref q ∧ SqT K H' q [x1, x2] ∧ te (bst2 fv σ (some x1) (some x2)) H' fun y H2 => ∃ ys, H2 D = some (.lst ys) ∧ ys.length < sizeLine ∧ N (upd H2 D (.lst (ys ++ [y]))))
def tComp2 (K : PySem.W.Frag) (fv : List (Nat × Str)) (wi : TI) (te : TE) : TE := fun σ H Q => wi σ H fun J H1 => ∀ D, H1 D = none -> CLoop2 K J fv te Q σ H1 D
theorem a_tComp2 {K : PySem.W.Frag} {σ : St} {H : Hp} {Q : VK} : tComp2 K fv wi te σ H Q = wi σ H fun J H1 => ∀ D, H1 D = none -> CLoop2 K J fv te Q σ H1 D := rfl
def FvOk2 (X : Cx) (scope : Scope) (cl : List (Str × Addr)) (fv : List (Nat × Str)) : Prop := ∀ p ∈ fv, X.N[p.1]? = some p.2 ∧ (X.env.scope.names.lookup p.2 = some .cell ∨ X.env.scope.names.lookup p.2 = some .free) ∧
  ((relabel scope X.env).names.lookup p.2 = some .cell ∨ (relabel scope X.env).names.lookup p.2 = some .free) ∧ ∃ c, cl.lookup p.2 = some c
theorem fv_nil2 {X : Cx} {scope : Scope} {cl : List (Str × Addr)} : FvOk2 X scope cl [] := fun _ h => nomatch h
end
def Itz (K : PySem.W.Frag) (a b : Addr) : It :=
 ⟨fun i H => ∃ xs ys x y, SqL K H a xs ∧ SqL K H b ys ∧ xs[i]? = some x ∧ ys[i]? = some y, fun i H v H' => ∃ p x y, H p = none ∧ v = .ref p ∧ H' = upd H p (.tup [x, y]) ∧ (∀ xs, SqL K H a xs -> xs[i]? = some x) ∧ ∀ ys, SqL K H b ys -> ys[i]? = some y,
  fun i H => ∃ xs ys, SqL K H a xs ∧ SqL K H b ys ∧ (xs.length <= i ∨ ys.length <= i)⟩
section
variable {X : Cx}
def iZip (K : PySem.W.Frag) (ta : TA) : TI := fun σ H R => ta σ H fun vs H1 => ∃ a b xs ys, vs = [.ref a, .ref b] ∧ SqL K H1 a xs ∧ SqL K H1 b ys ∧ R (Itz K a b) H1
end
theorem a_izip {K : PySem.W.Frag} {ta : TA} {σ : St} {H : Hp} {R : It -> Hp -> Prop} : iZip K ta σ H R = ta σ H fun vs H1 => ∃ a b xs ys, vs = [.ref a, .ref b] ∧ SqL K H1 a xs ∧ SqL K H1 b ys ∧ R (Itz K a b) H1 := rfl
end L2
namespace L2
open PySem PySem.Spec PyProof.Rows
section
variable {X : Cx}
def ipC (C : Int -> Int -> Prop) (f : Int -> Int -> Int) : TIp := fun x y H Q => ∃ i j, x = .int i ∧ y = .int j ∧ C i j ∧ Q (.int (f i j)) H
theorem a_ipC {C : Int -> Int -> Prop} {f : Int -> Int -> Int} {x y : V} {H : Hp} {Q : VK} : ipC C f x y H Q = ∃ i j, x = .int i ∧ y = .int j ∧ C i j ∧ Q (.int (f i j)) H := rfl
end
section
variable {X : Cx} {elt iter cnd : Expr} {x : Str} {px : Pos} {fv : List (Nat × Str)} {scope : Scope} {cl : List (Str × Addr)} {pos : Pos} {te : TE} {tt : TT} {wi : TI}
end
end L2
namespace L2
open PySem PySem.Spec PyProof.Rows
end L2
namespace L2
open PySem PySem.Spec PyProof.Rows
section
variable {prog : Program} {w : World} {A : Around} {R : Result -> Shared -> Prop} {I S : Addr} {fp wr : List Addr} {n : Nat} {P : Nat -> Value -> Prop} {St : Nat -> Heap -> Prop} {bt : Nat -> Nat -> Bool} {d : List (Str × Value)}
end
def tMaxD (K : PySem.W.Frag) (t tk : TA) : TE := fun σ H Q => t σ H fun vs H1 => tk σ H1 fun zs H2 => ∃ p ns d, vs = [.ref p] ∧ zs = [.int d] ∧ SqL K H2 p (ns.map V.int) ∧ ∀ M, (ns = [] ∧ M = d) ∨ (M ∈ ns ∧ ∀ a ∈ ns, a <= M) -> Q (.int M) H2
theorem a_maxD {K : PySem.W.Frag} {t tk : TA} {σ : St} {H : Hp} {Q : VK} : tMaxD K t tk σ H Q = t σ H fun vs H1 => tk σ H1 fun zs H2 => ∃ p ns d, vs = [.ref p] ∧ zs = [.int d] ∧ SqL K H2 p (ns.map V.int) ∧ ∀ M, (ns = [] ∧ M = d) ∨ (M ∈ ns ∧ ∀ a ∈ ns, a <= M) -> Q (.int M) H2 := rfl
theorem a_inS {K : PySem.W.Frag} {neg : Bool} {x y : V} {H : Hp} {Q : VK} : rIn K neg x y H Q = ∃ p xs, y = .ref p ∧ (SqL K H p xs ∨ SqT K H p xs) ∧ flatV x = true ∧ xs.all flatV = true ∧ Q (.bl (if neg then !inV x xs else inV x xs)) H := rfl
end L2
namespace L2
open PySem
section
variable {prog : Program} {w : World} {A : Around} {E : Value -> Shared -> Prop} {s : Shared} {d : Addr} {es : Array DictEntry} {ep : Nat}
end
end L2
namespace L2
open PySem
section
variable {prog : Program} {w : World} {A : Around} {E : Value -> Shared -> Prop} {s : Shared} {d it : Addr} {es : Array DictEntry} {ep i : Nat} {ok ov : Value}
end
end L2
namespace L2
open PySem
section
variable {prog : Program} {w : World} {A : Around} {E : Value -> Shared -> Prop} {s : Shared} {d o : Addr} {es : Array DictEntry} {ep epd : Nat}
end
end L2
namespace L2
open PySem
section
variable {prog : Program} {w : World} {K : Type} [DecidableEq K] {kn : KeyKind prog w K} {A : Around} {E : Value -> Shared -> Prop}
end
section
variable {prog : Program} {w : World} {A : Around} {E : Value -> Shared -> Prop} {s : Shared}
end
end L2
namespace L2
open PySem
end L2
namespace L2
open PySem
section
variable {prog : Program} {w : World} {K : Type} [DecidableEq K] {kn : KeyKind prog w K} {A : Around} {E : Value -> Shared -> Prop} {s : Shared}
end
end L2
namespace L2
open PySem
section
variable {prog : Program} {w : World} {K : Type} [DecidableEq K] {knd : HeapKind prog w K} {A : Around} {E : Value -> Shared -> Prop} {s : Shared}
end
end L2
namespace L2
open PySem
section
variable {K : Type} [DecidableEq K]
end
end L2
namespace L2
open PySem
section
variable {prog : Program} {w : World} {A : Around} {E : Value -> Shared -> Prop} {s : Shared} {d it : Addr} {es : Array DictEntry} {ep i : Nat}
end
end L2
namespace L2
open PySem
inductive Tr where | lf | nd (l : Tr) (k : Nat) (r : Tr)
def Tr.ins (k : Nat) : Tr -> Option Tr
 | .lf => some (.nd .lf k .lf)
 | .nd l m r => match Nat.blt k m with
  | true => match Tr.ins k l with | some l' => some (.nd l' m r) | none => none
  | false => match Nat.blt m k with
   | true => match Tr.ins k r with | some r' => some (.nd l m r') | none => none
   | false => none
def Tr.all : List Nat -> Tr -> Bool
 | [], _ => true
 | k :: ks, t => match t.ins k with | some t' => Tr.all ks t' | none => false
def Tr.mem (x : Nat) : Tr -> Prop
 | .lf => False
 | .nd l k r => x = k ∨ l.mem x ∨ r.mem x
end L2
namespace L2
abbrev P2 := Int × Int
end L2
namespace L2
open PySem PySem.Spec PyProof.Rows
section
variable {X : Cx} {pins : List (Addr × Obj)} {σ : St} {H H' : Hp} {s : Shared} {a : Addr} {o : Obj} {kvs : List (List Key × V)}
end
section
variable {X : Cx}
end
end L2
namespace L2
open PySem PySem.Spec PyProof.Rows
section
variable {X : Cx} {elt iter cnd : Expr} {x z : Str} {px pz : Pos} {tk : Nat} {tpos : Pos} {fv : List (Nat × Str)} {scope : Scope} {cl : List (Str × Addr)} {pos : Pos} {te : TE} {tt : TT} {wi : TI}
end
end L2
namespace L2
open PySem PySem.Spec PyProof.Rows
section
variable {X : Cx}
end
end L2
namespace L2
open PySem PySem.Spec PyProof.Rows
section
variable {X : Cx} {pins : List (Addr × Obj)} {σ : St} {H : Hp} {s : Shared} {A : Around} {E : Value -> Shared -> Prop}
end
section
variable {X : Cx}
end
end L2
namespace L2
open PySem PySem.Spec PyProof.Rows
section
variable {X : Cx} {td ty tv tx to : TE} {σ : St} {H : Hp} {Q : VK} {D : Ends}
end
end L2
namespace L2
open PySem PySem.Spec PyProof.Rows
section
variable {prog : Program} {w : World} {A : Around} {E : Value -> Shared -> Prop} {s : Shared} {d : Addr} {es : Array DictEntry} {ep : Nat}
end
section
variable {X : Cx}
end
end L2
namespace L2
open PySem PySem.Spec PyProof.Rows
section
variable {X : Cx} {k : Nat} {f C : Addr} {fd : FuncData} {ps : List Str} {sp : Sp} {m : Str} {pos apos : Pos} {o e : Expr} {es : List Expr} {ta : TE} {t : TA}
end
section
variable {K : PySem.W.Frag} {C : Addr} {m f : Str} {sp : Sp} {dvs : List V} {E : XK} {ta tv : TE} {t : TA} {σ : St} {H : Hp} {Q : VK} {D : Ends}
theorem a_fld : tFld K ta f σ H Q = ta σ H fun x H1 => ∃ a C dx fs v, x = .ref a ∧ H1 a = some (.ins C dx fs) ∧ Cls K C ∧ NoAttr K C f ∧ fs.lookup f = some v ∧ Q v H1 := rfl
theorem a_sfld : sFld K ta tv f D σ H = tv σ H fun y H1 => ta σ H1 fun x H2 => ∃ a C dx fs, x = .ref a ∧ H2 a = some (.ins C dx fs) ∧ Cls K C ∧ NoAttr K C f ∧ fs.length < 1000 ∧ D.nx σ (upd H2 a (.ins C dx (putF f y fs))) := rfl
theorem a_meth : tMeth C m sp dvs E ta t σ H Q = ta σ H fun x H1 => ∃ a dx fs, x = .ref a ∧ H1 a = some (.ins C dx fs) ∧ fs.lookup m = none ∧ t σ H1 fun vs H2 => sp (x :: (vs ++ dvs)) H2 Q E := rfl
theorem a_make : tMake C sp dvs E t σ H Q = t σ H fun vs H1 => ∀ x dx, H1 x = none -> H1 dx = none -> dx ≠ x -> sp (.ref x :: (vs ++ dvs)) (upd (upd H1 dx (.own x)) x (.ins C dx [])) (fun v H2 => v = .non ∧ Q (.ref x) H2) E := rfl
end
end L2
namespace L2
open PySem PySem.Spec PyProof.Rows
section
variable {prog : Program} {w : World} {A : Around} {E : Value -> Shared -> Prop} {s : Shared}
theorem nxT_item {it t : Addr} {i : Nat} {items : Array Value} {x : Value} {Q : Value -> Shared -> Prop} (hit : s.heap.IsTupleIter it t i) (ht : s.heap.IsTuple t items) (hx : items[i]? = some x)
  (hQ : ∀ h', h'.IsTupleIter it t (i + 1) -> Heap.SameBut it s.heap h' -> Q x { s with heap := h' }) : wpAny (model prog w) A (Builtin.SmallTypes.nextOf (.ref it)) Q E s := by
 have ⟨o, ho, hc, hd⟩ := hit
 have ⟨ol, hol, _, nl, hdl⟩ := ht
 refine wpAny_bind (wpAny_callSpecial?_slot (name := Str.ofString "__next__") hit.typeIs F.slot_tuple_iterator_next (wpAny_call_entry F.slot_tuple_iterator_next hit.typeIs F.entry_tuple_iterator_next ?_ (F.args_tuple_iterator_next_1 _)))
 refine wpAny_bind (m := field (.ref it) 0) (wpAny_field ho hd (x := .ref t) rfl ?_)
 refine wpAny_bind (m := field (.ref it) 1) (wpAny_field ho hd (x := .int i 0) rfl ?_)
 refine wpAny_bind (m := seqItems? (.ref t)) (wpAny_seqItems hol hdl ?_)
 simp only [Int.toNat_natCast, hx]
 refine wpAny_bind (wpAny_setField ho hd (by simp) (wpAny_pure ⟨x, rfl, wpAny_pure (hQ _ ⟨_, Heap.get?_update_self _ ho (Obj.isFreed_of_fields (Obj.data_mapFields hd _)), (Obj.cls_mapFields ..).trans hc, ?_⟩ (Heap.SameBut.update ..))⟩))
 rw [Obj.data_mapFields hd]; simp [rawInt]
theorem nxT_end {it t : Addr} {i : Nat} {items : Array Value} {Q : Value -> Shared -> Prop} (hh : A.handled = none) (hit : s.heap.IsTupleIter it t i) (ht : s.heap.IsTuple t items) (hx : items[i]? = none)
  (hE : ∀ h' e, Heap.ExtBut it s.heap h' -> (∃ o, h'.get? e = some o ∧ o.cls = .type "StopIteration") -> E (.ref e) { s with heap := h' }) : wpAny (model prog w) A (Builtin.SmallTypes.nextOf (.ref it)) Q E s := by
 have ⟨o, ho, hc, hd⟩ := hit
 have ⟨ol, hol, _, nl, hdl⟩ := ht
 refine wpAny_bind (wpAny_callSpecial?_slot (name := Str.ofString "__next__") hit.typeIs F.slot_tuple_iterator_next (wpAny_call_entry F.slot_tuple_iterator_next hit.typeIs F.entry_tuple_iterator_next ?_ (F.args_tuple_iterator_next_1 _)))
 refine wpAny_bind (m := field (.ref it) 0) (wpAny_field ho hd (x := .ref t) rfl ?_)
 refine wpAny_bind (m := field (.ref it) 1) (wpAny_field ho hd (x := .int i 0) rfl ?_)
 refine wpAny_bind (m := seqItems? (.ref t)) (wpAny_seqItems hol hdl ?_)
 simp only [Int.toNat_natCast, hx]
 refine wpAny_bind (wpAny_rule (wpAny_bind (wpAny_setField ho hd (by simp) (wpAny_bind (m := newExc (.type "StopIteration") []) ?_))))
 simp only [newExc, newTuple]
 refine wpAny_bind (wpAny_newObj_type (wpAny_bind (m := firstArgMember _ _) (wpAny_of_eq (a := Value.none) (by first | rfl | (simp only [firstArgMember]; rfl)) (wpAny_newObj_type ?_ (by size_fits)))) (by size_fits))
 simp only [raiseNew]
 refine wpAny_bind (wpAny_handled ?_)
 first | rw [show A.in1.handled = none from hh] | rw [hh]
 exact wpAny_bind (wpAny_pure (wpAny_throw (hE _ _ (((Heap.SameBut.update ..).extBut.push _).push _) ⟨_, Heap.get?_push_size _ rfl, rfl⟩)))
end
section
variable {prog : Program} {w : World} {A : Around} {E : Value -> Shared -> Prop} {s : Shared}
end
section
variable {X : Cx}
end
end L2
namespace L2
open PySem PySem.Spec PyProof.Rows
end L2
namespace L2
open PySem PySem.Spec PyProof.Rows
abbrev IsTrip (h : Heap) (T : Addr) (a b c : Value) : Prop := h.get? T = some { cls := .type "tuple", data := .seq #[a, b, c] }
structure Zip3 (z TI TO i1 i2 i3 l1 l2 l3 : Addr) : Prop where
 TIz : TI ≠ z
 TOz : TO ≠ z
 i1z : i1 ≠ z
 i2z : i2 ≠ z
 i3z : i3 ≠ z
 TITO : TI ≠ TO
 TIi1 : TI ≠ i1
 TIi2 : TI ≠ i2
 TIi3 : TI ≠ i3
 TOi1 : TO ≠ i1
 TOi2 : TO ≠ i2
 TOi3 : TO ≠ i3
 i12 : i1 ≠ i2
 i13 : i1 ≠ i3
 i23 : i2 ≠ i3
 l1z : l1 ≠ z
 l2z : l2 ≠ z
 l3z : l3 ≠ z
 l2TO : l2 ≠ TO
 l3TO : l3 ≠ TO
 l2i1 : l2 ≠ i1
 l3i1 : l3 ≠ i1
 l3i2 : l3 ≠ i2
theorem zip3_new {n l1 l2 l3 : Addr} (h1 : l1 < n) (h2 : l2 < n) (h3 : l3 < n) : Zip3 (n + 5) (n + 3) (n + 4) n (n + 1) (n + 2) l1 l2 l3 := by
 constructor <;> (intro h; have h' : (_ : Nat) = (_ : Nat) := h; simp only [Addr] at *; omega)
section
variable {prog : Program} {w : World} {A : Around} {E : Value -> Shared -> Prop} {s : Shared}
theorem updateSeq_trip {T : Addr} {a b c x : Value} {k : Nat} {Q : Unit -> Shared -> Prop} (hT : IsTrip s.heap T a b c)
  (h : ∀ h', h'.get? T = some { cls := .type "tuple", data := .seq ((#[a, b, c] : Array Value).setIfInBounds k x) } -> Heap.SameBut T s.heap h' -> Q () { s with heap := h' }) :
  wpAny (model prog w) A (updateSeq T (·.setIfInBounds k x)) Q E s := by
 refine wpAny_updateSeq hT rfl (h _ ?_ (Heap.SameBut.update ..))
 rw [Heap.get?_update_self _ hT rfl]
 simp [Obj.mapSeq]
theorem zip3_item {z TI TO i1 i2 i3 l1 l2 l3 : Addr} {k : Nat} {xs ys zs : Array Value} {x y v a b c : Value} {Q : Value -> Shared -> Prop} (D : Zip3 z TI TO i1 i2 i3 l1 l2 l3)
  (hz : IsZip s.heap z TI TO .none) (hTI : IsTrip s.heap TI (.ref i1) (.ref i2) (.ref i3)) (hTO : IsTrip s.heap TO a b c) (h1 : s.heap.IsTupleIter i1 l1 k) (h2 : s.heap.IsTupleIter i2 l2 k) (h3 : s.heap.IsTupleIter i3 l3 k)
  (t1 : s.heap.IsTuple l1 xs) (t2 : s.heap.IsTuple l2 ys) (t3 : s.heap.IsTuple l3 zs) (hx : xs[k]? = some x) (hy : ys[k]? = some y) (hv : zs[k]? = some v)
  (hQ : ∀ h', IsZip h' z TI TO (rawInt s.heap.objs.size) -> IsTrip h' TO x y v -> h'.IsTupleIter i1 l1 (k + 1) -> h'.IsTupleIter i2 l2 (k + 1) -> h'.IsTupleIter i3 l3 (k + 1) -> IsTrip h' s.heap.objs.size x y v ->
   (∀ c o, c ∉ [z, TO, i1, i2, i3] -> s.heap.get? c = some o -> h'.get? c = some o) -> Q (.ref s.heap.objs.size) { s with heap := h' }) :
  wpAny (model prog w) A (Builtin.«zip.__next__» ⟨[.ref z], []⟩) (fun fin s' => ∃ v, fin = .done (.ret v) ∧ Q v s') E s := by
 refine wpAny_bind (m := field (.ref z) 2) (wpAny_field hz rfl (x := .bool false) rfl ?_)
 refine wpAny_bind (m := field (.ref z) 3) (wpAny_field hz rfl (x := .ref TI) rfl (wpAny_bind (wpAny_seqItems hTI rfl ?_)))
 refine wpAny_bind (m := Builtin.SmallTypes.ownedTupleIsFree (.ref z)) (wpAny_bind (m := field (.ref z) 0) (wpAny_field hz rfl (x := .none) rfl (wpAny_pure ?_)))
 simp only [if_true]
 refine wpAny_bind (wpAny_rule (wpAny_bind (wpAny_field hz rfl (x := .ref TO) rfl (wpAny_bind (wpAny_setField_rec hz (by simp) fun g₁ z₁ c₁ => wpAny_bind ?_)))))
 replace z₁ : IsZip g₁ z TI TO .ellipsis := z₁
 simp only [List.zipIdx_cons, List.zipIdx_nil, List.forIn_cons, List.forIn_nil]
 have b₁ := c₁.extBut
 refine wpAny_bind (wpAny_bind (wpAny_onRaise (wpAny_bind (m := Builtin.SmallTypes.nextOf (.ref i1)) (nxT_item (h1.extBut b₁ D.i1z) (t1.extBut b₁ D.l1z) hx fun g₂ j₂ c₂ => wpAny_pure ?_))))
 have b₂ := c₂.extBut
 have o₂ : IsTrip g₂ TO a b c := b₂ _ _ D.TOi1 (b₁ _ _ D.TOz hTO)
 refine wpAny_bind (wpAny_seqItems o₂ rfl (wpAny_bind (updateSeq_trip o₂ fun g₃ o₃ c₃ => wpAny_bind (wpAny_letGo (wpAny_pure ?_)))))
 replace o₃ : IsTrip g₃ TO x b c := o₃
 have b₃ := c₃.extBut
 have e2 : ∀ c o, c ≠ z -> c ≠ i1 -> c ≠ TO -> s.heap.get? c = some o -> g₃.get? c = some o := fun c o n1 n2 n3 e => b₃ _ _ n3 (b₂ _ _ n2 (b₁ _ _ n1 e))
 refine wpAny_bind (wpAny_bind (wpAny_onRaise (wpAny_bind (m := Builtin.SmallTypes.nextOf (.ref i2)) (nxT_item (s := { s with heap := g₃ }) (h2.at fun o e => e2 _ o D.i2z D.i12.symm D.TOi2.symm e) (t2.at fun o e => e2 _ o D.l2z D.l2i1 D.l2TO e) hy fun g₄ j₄ c₄ => wpAny_pure ?_))))
 have b₄ := c₄.extBut
 have o₄ : IsTrip g₄ TO x b c := b₄ _ _ D.TOi2 o₃
 refine wpAny_bind (wpAny_seqItems o₄ rfl (wpAny_bind (updateSeq_trip o₄ fun g₅ o₅ c₅ => wpAny_bind (wpAny_letGo (wpAny_pure ?_)))))
 replace o₅ : IsTrip g₅ TO x y c := o₅
 have b₅ := c₅.extBut
 have e3 : ∀ c o, c ≠ z -> c ≠ i1 -> c ≠ TO -> c ≠ i2 -> s.heap.get? c = some o -> g₅.get? c = some o := fun c o n1 n2 n3 n4 e => b₅ _ _ n3 (b₄ _ _ n4 (e2 c o n1 n2 n3 e))
 refine wpAny_bind (wpAny_bind (wpAny_onRaise (wpAny_bind (m := Builtin.SmallTypes.nextOf (.ref i3)) (nxT_item (s := { s with heap := g₅ }) (h3.at fun o e => e3 _ o D.i3z D.i13.symm D.TOi3.symm D.i23.symm e) (t3.at fun o e => e3 _ o D.l3z D.l3i1 D.l3TO D.l3i2 e) hv fun g₆ j₆ c₆ => wpAny_pure ?_))))
 have b₆ := c₆.extBut
 have o₆ : IsTrip g₆ TO x y c := b₆ _ _ D.TOi3 o₅
 refine wpAny_bind (wpAny_seqItems o₆ rfl (wpAny_bind (updateSeq_trip o₆ fun g₇ o₇ c₇ => wpAny_bind (wpAny_letGo (wpAny_pure (wpAny_pure (wpAny_bind ?_)))))))
 replace o₇ : IsTrip g₇ TO x y v := o₇
 have b₇ := c₇.extBut
 refine wpAny_seqItems o₇ rfl (wpAny_bind (wpAny_newTuple ?_))
 have sz : g₇.objs.size = s.heap.objs.size := by rw [c₇.1, c₆.1, c₅.1, c₄.1, c₃.1, c₂.1, c₁.1]
 have z₇ : IsZip g₇ z TI TO .ellipsis := b₇ _ _ D.TOz.symm (b₆ _ _ D.i3z.symm (b₅ _ _ D.TOz.symm (b₄ _ _ D.i2z.symm (b₃ _ _ D.TOz.symm (b₂ _ _ D.i1z.symm z₁)))))
 have j₁ : g₇.IsTupleIter i1 l1 (k + 1) := j₂.at fun o e => b₇ _ _ D.TOi1.symm (b₆ _ _ D.i13 (b₅ _ _ D.TOi1.symm (b₄ _ _ D.i12 (b₃ _ _ D.TOi1.symm e))))
 have j₅ : g₇.IsTupleIter i2 l2 (k + 1) := j₄.at fun o e => b₇ _ _ D.TOi2.symm (b₆ _ _ D.i23 (b₅ _ _ D.TOi2.symm e))
 have j₇ : g₇.IsTupleIter i3 l3 (k + 1) := j₆.at fun o e => b₇ _ _ D.TOi3.symm e
 have lz : z < g₇.objs.size := Heap.lt_size z₇
 refine wpAny_bind (m := Builtin.SmallTypes.ownedTupleHandOut (.ref z) (.ref g₇.objs.size)) (wpAny_bind (wpAny_setField_rec (Heap.get?_push_of_some _ z₇) (by simp) fun g₈ z₈ c₈ => ?_))
 replace z₈ : IsZip g₈ z TI TO (rawInt g₇.objs.size) := z₈
 refine wpAny_setField_rec z₈ (by simp) fun g₉ z₉ c₉ => ?_
 replace z₉ : IsZip g₉ z TI TO (rawInt g₇.objs.size) := z₉
 have up : ∀ c o, c ≠ z -> (g₇.push { cls := .type "tuple", data := .seq #[x, y, v] }).get? c = some o -> g₉.get? c = some o := fun c o n e => c₉.extBut _ _ n (c₈.extBut _ _ n e)
 have T₉ : IsTrip g₉ g₇.objs.size x y v := up _ _ (Nat.ne_of_gt lz) (Heap.get?_push_size _ rfl)
 have up7 : ∀ c o, c ≠ z -> g₇.get? c = some o -> g₉.get? c = some o := fun c o n e => up c o n (Heap.get?_push_of_some _ e)
 refine wpAny_pure ⟨_, rfl, ?_⟩
 show Q (.ref g₇.objs.size) _
 rw [sz] at z₉ T₉ ⊢
 refine hQ g₉ z₉ (up7 _ _ D.TOz o₇) (j₁.at fun o e => up7 _ o D.i1z e) (j₅.at fun o e => up7 _ o D.i2z e) (j₇.at fun o e => up7 _ o D.i3z e) T₉ fun c o hc e => ?_
 have n1 : c ≠ z := fun h => hc (by simp [h])
 have n2 : c ≠ TO := fun h => hc (by simp [h])
 have n3 : c ≠ i1 := fun h => hc (by simp [h])
 have n4 : c ≠ i2 := fun h => hc (by simp [h])
 have n5 : c ≠ i3 := fun h => hc (by simp [h])
 exact up7 c o n1 (b₇ _ _ n2 (b₆ _ _ n5 (e3 c o n1 n3 n2 n4 e)))
theorem zip3_end {z TI TO i1 i2 i3 l1 l2 l3 : Addr} {k : Nat} {xs : Array Value} {a b c : Value} {Q : Fin -> Shared -> Prop} (hh : A.handled = none) (D : Zip3 z TI TO i1 i2 i3 l1 l2 l3)
  (hz : IsZip s.heap z TI TO .none) (hTI : IsTrip s.heap TI (.ref i1) (.ref i2) (.ref i3)) (h1 : s.heap.IsTupleIter i1 l1 k) (t1 : s.heap.IsTuple l1 xs) (hx : xs[k]? = none)
  (hE : ∀ h' e, (∀ c o, c ∉ [z, TO, i1, i2, i3] -> s.heap.get? c = some o -> h'.get? c = some o) -> (∃ o, h'.get? e = some o ∧ o.cls = .type "StopIteration") -> E (.ref e) { s with heap := h' }) :
  wpAny (model prog w) A (Builtin.«zip.__next__» ⟨[.ref z], []⟩) Q E s := by
 refine wpAny_bind (m := field (.ref z) 2) (wpAny_field hz rfl (x := .bool false) rfl ?_)
 refine wpAny_bind (m := field (.ref z) 3) (wpAny_field hz rfl (x := .ref TI) rfl (wpAny_bind (wpAny_seqItems hTI rfl ?_)))
 refine wpAny_bind (m := Builtin.SmallTypes.ownedTupleIsFree (.ref z)) (wpAny_bind (m := field (.ref z) 0) (wpAny_field hz rfl (x := .none) rfl (wpAny_pure ?_)))
 simp only [if_true]
 refine wpAny_bind (wpAny_rule (wpAny_bind (wpAny_field hz rfl (x := .ref TO) rfl (wpAny_bind (wpAny_setField_rec hz (by simp) fun g₁ z₁ c₁ => wpAny_bind ?_)))))
 replace z₁ : IsZip g₁ z TI TO .ellipsis := z₁
 simp only [List.zipIdx_cons, List.zipIdx_nil, List.forIn_cons, List.forIn_nil]
 have b₁ := c₁.extBut
 have nz : ∀ {g : Heap} {e : Addr} {o : Obj}, IsZip g z TI TO .ellipsis -> g.get? e = some o -> o.cls = .type "StopIteration" -> e ≠ z := fun {g e o} q r c h => by
  subst h
  rw [q] at r; cases r; simp at c
 refine wpAny_bind (wpAny_bind (wpAny_onRaise (wpAny_bind (m := Builtin.SmallTypes.nextOf (.ref i1)) (nxT_end hh (h1.extBut b₁ D.i1z) (t1.extBut b₁ D.l1z) hx fun g₂ e b₂ ⟨oe, he, ce⟩ => ?_))))
 have z₂ : IsZip g₂ z TI TO .ellipsis := b₂ _ _ D.i1z.symm z₁
 refine wpAny_setField_rec z₂ (by simp) fun g₃ _ c₃ => hE g₃ e (fun c o hc q => ?_) ⟨oe, c₃.extBut _ _ (nz z₂ he ce) he, ce⟩
 exact c₃.extBut _ _ (fun h => hc (by simp [h])) (b₂ _ _ (fun h => hc (by simp [h])) (b₁ _ _ (fun h => hc (by simp [h])) q))
theorem pyNext_zip3 {z TI TO i1 i2 i3 l1 l2 l3 : Addr} {k : Nat} {xs ys zs : Array Value} {x y v a b c : Value} {Q : Option Value -> Shared -> Prop} (D : Zip3 z TI TO i1 i2 i3 l1 l2 l3)
  (hz : IsZip s.heap z TI TO .none) (hTI : IsTrip s.heap TI (.ref i1) (.ref i2) (.ref i3)) (hTO : IsTrip s.heap TO a b c) (h1 : s.heap.IsTupleIter i1 l1 k) (h2 : s.heap.IsTupleIter i2 l2 k) (h3 : s.heap.IsTupleIter i3 l3 k)
  (t1 : s.heap.IsTuple l1 xs) (t2 : s.heap.IsTuple l2 ys) (t3 : s.heap.IsTuple l3 zs) (hx : xs[k]? = some x) (hy : ys[k]? = some y) (hv : zs[k]? = some v)
  (hQ : ∀ h', IsZip h' z TI TO (rawInt s.heap.objs.size) -> IsTrip h' TO x y v -> h'.IsTupleIter i1 l1 (k + 1) -> h'.IsTupleIter i2 l2 (k + 1) -> h'.IsTupleIter i3 l3 (k + 1) -> IsTrip h' s.heap.objs.size x y v ->
   (∀ c o, c ∉ [z, TO, i1, i2, i3] -> s.heap.get? c = some o -> h'.get? c = some o) -> Q (some (.ref s.heap.objs.size)) { s with heap := h' }) : wpAny (model prog w) A (pyNext (.ref z)) Q E s := by
 have hT : s.TypeIs (.ref z) "zip" := ⟨_, hz, rfl⟩
 exact wpAny_bind (wpAny_attempt (wpAny_callSpecial?_slot (name := Str.ofString "__next__") hT F.slot_zip_next (wpAny_call_entry F.slot_zip_next hT F.entry_zip_next
  (zip3_item D hz hTI hTO h1 h2 h3 t1 t2 t3 hx hy hv fun h' a1 a2 a3 a4 a5 a6 a7 => wpAny_pure (hQ h' a1 a2 a3 a4 a5 a6 a7)) (F.args_zip_next_1 _))))
theorem pyNext_zip3End {z TI TO i1 i2 i3 l1 l2 l3 : Addr} {k : Nat} {xs : Array Value} {Q : Option Value -> Shared -> Prop} (hh : A.handled = none) (D : Zip3 z TI TO i1 i2 i3 l1 l2 l3)
  (hz : IsZip s.heap z TI TO .none) (hTI : IsTrip s.heap TI (.ref i1) (.ref i2) (.ref i3)) (h1 : s.heap.IsTupleIter i1 l1 k) (t1 : s.heap.IsTuple l1 xs) (hx : xs[k]? = none)
  (hQ : ∀ h', (∀ c o, c ∉ [z, TO, i1, i2, i3] -> s.heap.get? c = some o -> h'.get? c = some o) -> Q none { s with heap := h' }) : wpAny (model prog w) A (pyNext (.ref z)) Q E s := by
 have hT : s.TypeIs (.ref z) "zip" := ⟨_, hz, rfl⟩
 refine wpAny_bind (wpAny_attempt (wpAny_callSpecial?_slot (name := Str.ofString "__next__") hT F.slot_zip_next (wpAny_call_entry F.slot_zip_next hT F.entry_zip_next (zip3_end (a := .none) (b := .none) (c := .none) hh D hz hTI h1 t1 hx fun h' e hk ⟨o, ho, hc⟩ => ?_) (F.args_zip_next_1 _))))
 exact wpAny_bind (wpAny_isInstance (T := "StopIteration") (b := true) ⟨o, ho, hc⟩ isSubtype_stop (wpAny_pure (hQ _ hk)))
end
def zp3 (h : Heap) (a b c : Addr) : Heap :=
 (((((h.push { cls := .type "tuple_iterator", data := .fields #[.ref a, .int 0 0] }).push { cls := .type "tuple_iterator", data := .fields #[.ref b, .int 0 0] }).push { cls := .type "tuple_iterator", data := .fields #[.ref c, .int 0 0] }).push
  { cls := .type "tuple", data := .seq #[.ref h.objs.size, .ref (h.push { cls := .type "tuple_iterator", data := .fields #[.ref a, .int 0 0] }).objs.size, .ref ((h.push { cls := .type "tuple_iterator", data := .fields #[.ref a, .int 0 0] }).push { cls := .type "tuple_iterator", data := .fields #[.ref b, .int 0 0] }).objs.size] }).push { cls := .type "tuple", data := .seq #[.none, .none, .none] }).push
  { cls := .type "zip", data := .fields #[.none, .bool false, .bool false, .ref (((h.push { cls := .type "tuple_iterator", data := .fields #[.ref a, .int 0 0] }).push { cls := .type "tuple_iterator", data := .fields #[.ref b, .int 0 0] }).push { cls := .type "tuple_iterator", data := .fields #[.ref c, .int 0 0] }).objs.size,
   .ref ((((h.push { cls := .type "tuple_iterator", data := .fields #[.ref a, .int 0 0] }).push { cls := .type "tuple_iterator", data := .fields #[.ref b, .int 0 0] }).push { cls := .type "tuple_iterator", data := .fields #[.ref c, .int 0 0] }).push { cls := .type "tuple", data := .seq #[.ref h.objs.size, .ref (h.push { cls := .type "tuple_iterator", data := .fields #[.ref a, .int 0 0] }).objs.size, .ref ((h.push { cls := .type "tuple_iterator", data := .fields #[.ref a, .int 0 0] }).push { cls := .type "tuple_iterator", data := .fields #[.ref b, .int 0 0] }).objs.size] }).objs.size] }
theorem zp3_size (h : Heap) (a b c : Addr) : (zp3 h a b c).objs.size = h.objs.size + 6 := by unfold zp3; rw [Heap.size_push, Heap.size_push, Heap.size_push, Heap.size_push, Heap.size_push, Heap.size_push]
theorem meets3 (l1 l2 l3 : Addr) (xs ys zs : Array Value) : Meets (Builtin.«zip.__new__» ⟨[.type "zip", .ref l1, .ref l2, .ref l3], []⟩) (fun _ R s => s.heap.IsTuple l1 xs ∧ s.heap.IsTuple l2 ys ∧ s.heap.IsTuple l3 zs ∧ R (.ok (.ret (.ref (s.heap.objs.size + 5)))) { s with heap := zp3 s.heap l1 l2 l3 }) :=
 .of_wp fun prog w A R s h => by
  obtain ⟨hp, g, d, tk, os⟩ := s
  obtain ⟨q1, q2, q3, h⟩ := h
  have hsub := sub_zip
  have k1 : Heap.IsTuple (Shared.heap ⟨hp, g, d, tk, os⟩) l1 xs := q1
  have k2 : Heap.IsTuple (Shared.heap ⟨hp.push { cls := .type "tuple_iterator", data := .fields #[.ref l1, .int 0 0] }, g, d, tk, os⟩) l2 ys := Heap.IsTuple.push q2 _
  have k3 : Heap.IsTuple (Shared.heap ⟨(hp.push { cls := .type "tuple_iterator", data := .fields #[.ref l1, .int 0 0] }).push { cls := .type "tuple_iterator", data := .fields #[.ref l2, .int 0 0] }, g, d, tk, os⟩) l3 zs := Heap.IsTuple.push (Heap.IsTuple.push q3 _) _
  wp_walk using wpAny_pyIter_tuple k1, wpAny_pyIter_tuple k2, wpAny_pyIter_tuple k3
  refine ⟨_, rfl, ?_⟩
  have e : (zp3 hp l1 l2 l3).objs.size = hp.objs.size + 6 := zp3_size hp l1 l2 l3
  unfold zp3 at e h
  rw [Heap.size_push] at e
  have e4 := Nat.succ.inj e
  rw [← e4] at h
  exact h
theorem tc_zip_3 (a b c : Value) : checkTypeCall "zip" ⟨[a, b, c], []⟩ = pure () := by kernel_rfl
theorem nc_zip_3 (a b c : Value) : checkBuiltinCall "zip.__new__" ⟨[.type "zip", a, b, c], []⟩ = pure () := by kernel_rfl
theorem ao_init_4 (a b c d : Value) : argsOk "object.__init__" ⟨[a, b, c, d], []⟩ := by
 unfold argsOk; rw [signature?_of (id := "object.__init__") (n := ['_', '_', 't', 'i', 'n', 'i', '_', '_']) (o := ['t', 'c', 'e', 'j', 'b', 'o']) (by kernel_rfl) F.owner_object]; kernel_rfl
section
variable {prog : Program} {w : World} {A : Around} {E : Value -> Shared -> Prop} {s : Shared}
theorem call_zip3 {l1 l2 l3 : Addr} {xs ys zs : Array Value} {Q : Value -> Shared -> Prop} (q1 : s.heap.IsTuple l1 xs) (q2 : s.heap.IsTuple l2 ys) (q3 : s.heap.IsTuple l3 zs)
  (h : ∀ h', IsZip h' (s.heap.objs.size + 5) (s.heap.objs.size + 3) (s.heap.objs.size + 4) .none -> IsTrip h' (s.heap.objs.size + 3) (.ref s.heap.objs.size) (.ref (s.heap.objs.size + 1)) (.ref (s.heap.objs.size + 2)) ->
   IsTrip h' (s.heap.objs.size + 4) .none .none .none -> h'.IsTupleIter s.heap.objs.size l1 0 -> h'.IsTupleIter (s.heap.objs.size + 1) l2 0 -> h'.IsTupleIter (s.heap.objs.size + 2) l3 0 -> (∀ c o, s.heap.get? c = some o -> h'.get? c = some o) -> Q (.ref (s.heap.objs.size + 5)) { s with heap := h' }) :
  wpAny (model prog w) A (call (.type "zip") [.ref l1, .ref l2, .ref l3]) Q E s := by
 refine callType_new F.called_zip (by decide) (tc_zip_3 _ _ _) (nc_zip_3 _ _ _) (fun obj => ao_init_4 obj _ _ _) F.entry_zip_new (meets3 l1 l2 l3 xs ys zs) ⟨q1, q2, q3, ?_⟩
 obtain ⟨H1, e1⟩ : ∃ H1, H1 = s.heap.push { cls := .type "tuple_iterator", data := .fields #[.ref l1, .int 0 0] } := ⟨_, rfl⟩
 obtain ⟨H2, e2⟩ : ∃ H2, H2 = H1.push { cls := .type "tuple_iterator", data := .fields #[.ref l2, .int 0 0] } := ⟨_, rfl⟩
 obtain ⟨H2', e2'⟩ : ∃ H2', H2' = H2.push { cls := .type "tuple_iterator", data := .fields #[.ref l3, .int 0 0] } := ⟨_, rfl⟩
 obtain ⟨H3, e3⟩ : ∃ H3, H3 = H2'.push { cls := .type "tuple", data := .seq #[.ref s.heap.objs.size, .ref H1.objs.size, .ref H2.objs.size] } := ⟨_, rfl⟩
 obtain ⟨H4, e4⟩ : ∃ H4, H4 = H3.push { cls := .type "tuple", data := .seq #[.none, .none, .none] } := ⟨_, rfl⟩
 have e5 : zp3 s.heap l1 l2 l3 = H4.push { cls := .type "zip", data := .fields #[.none, .bool false, .bool false, .ref H2'.objs.size, .ref H3.objs.size] } := by subst e4 e3 e2' e2 e1; rfl
 have z1 : H1.objs.size = s.heap.objs.size + 1 := by rw [e1, Heap.size_push]
 have z2 : H2.objs.size = s.heap.objs.size + 2 := by rw [e2, Heap.size_push, z1]
 have z2' : H2'.objs.size = s.heap.objs.size + 3 := by rw [e2', Heap.size_push, z2]
 have z3 : H3.objs.size = s.heap.objs.size + 4 := by rw [e3, Heap.size_push, z2']
 have z4 : H4.objs.size = s.heap.objs.size + 5 := by rw [e4, Heap.size_push, z3]
 have g1 : H1.get? s.heap.objs.size = some { cls := .type "tuple_iterator", data := .fields #[.ref l1, .int 0 0] } := by rw [e1]; exact Heap.get?_push_size _ rfl
 have g2 : H2.get? H1.objs.size = some { cls := .type "tuple_iterator", data := .fields #[.ref l2, .int 0 0] } := by rw [e2]; exact Heap.get?_push_size _ rfl
 have g2' : H2'.get? H2.objs.size = some { cls := .type "tuple_iterator", data := .fields #[.ref l3, .int 0 0] } := by rw [e2']; exact Heap.get?_push_size _ rfl
 have g3 : H3.get? H2'.objs.size = some { cls := .type "tuple", data := .seq #[.ref s.heap.objs.size, .ref H1.objs.size, .ref H2.objs.size] } := by rw [e3]; exact Heap.get?_push_size _ rfl
 have g4 : H4.get? H3.objs.size = some { cls := .type "tuple", data := .seq #[.none, .none, .none] } := by rw [e4]; exact Heap.get?_push_size _ rfl
 have u2 : ∀ c o, H1.get? c = some o -> H2.get? c = some o := fun c o e => by rw [e2]; exact Heap.get?_push_of_some _ e
 have u2' : ∀ c o, H2.get? c = some o -> H2'.get? c = some o := fun c o e => by rw [e2']; exact Heap.get?_push_of_some _ e
 have u3 : ∀ c o, H2'.get? c = some o -> H3.get? c = some o := fun c o e => by rw [e3]; exact Heap.get?_push_of_some _ e
 have u4 : ∀ c o, H3.get? c = some o -> H4.get? c = some o := fun c o e => by rw [e4]; exact Heap.get?_push_of_some _ e
 have u5 : ∀ c o, H4.get? c = some o -> (zp3 s.heap l1 l2 l3).get? c = some o := fun c o e => by rw [e5]; exact Heap.get?_push_of_some _ e
 have g5 : (zp3 s.heap l1 l2 l3).get? H4.objs.size = some { cls := .type "zip", data := .fields #[.none, .bool false, .bool false, .ref H2'.objs.size, .ref H3.objs.size] } := by rw [e5]; exact Heap.get?_push_size _ rfl
 have f1 := u5 _ _ (u4 _ _ (u3 _ _ (u2' _ _ (u2 _ _ g1))))
 have f2 := u5 _ _ (u4 _ _ (u3 _ _ (u2' _ _ g2)))
 have f2' := u5 _ _ (u4 _ _ (u3 _ _ g2'))
 have f3 := u5 _ _ (u4 _ _ g3)
 have f4 := u5 _ _ g4
 rw [z4, z2', z3] at g5
 rw [z1] at f2
 rw [z2] at f2'
 rw [z2', z1, z2] at f3
 rw [z3] at f4
 exact ⟨⟨_, g5, rfl⟩, h _ g5 f3 f4 ⟨_, f1, rfl, rfl⟩ ⟨_, f2, rfl, rfl⟩ ⟨_, f2', rfl, rfl⟩ fun c o x => u5 _ _ (u4 _ _ (u3 _ _ (u2' _ _ (u2 _ _ (by rw [e1]; exact Heap.get?_push_of_some _ x)))))⟩
end
@[reducible] def blk3 (X : Cx) (x z z3 : Str) (fv : List (Nat × Str)) (scope : Scope) (cl : List (Str × Addr)) (C : Addr) (s : Shared) (H : Hp) (fp : List Addr) : Cx where
 prog := X.prog
 w := X.w
 K := X.K
 mg := X.mg
 base := X.base
 A := X.A
 N := x :: z :: z3 :: fv.map (·.2)
 s₀ := s
 H₀ := H
 env := compEnvC scope cl C X.env
 outer := X.stack
 stack := X.stack
 ex := fp
 fn := fun _ => false
 calm := X.calm
 pn := []
 xe := fun _ _ => False
def bst3 (fv : List (Nat × Str)) (σ : St) (v v2 v3 : Option V) : St := v :: v2 :: v3 :: fv.map fun p => (σ[p.1]?).getD none
structure BlkOk3 (X : Cx) (x z z3 : Str) (fv : List (Nat × Str)) (scope : Scope) (cl : List (Str × Addr)) : Prop where
 clos : closureFor scope X.env = pure cl
 nocell : ∀ y ∈ scope.names, y.2 ≠ .cell
 kind : scope.kind = .function
 names : ∀ y ∈ scope.names, y.2 = .local -> scope.names.lookup y.1 = some .local
 here : scope.names.lookup x = some .local
 here2 : scope.names.lookup z = some .local
 here3 : scope.names.lookup z3 = some .local
 nd : (x :: z :: z3 :: fv.map (·.2)).Nodup
 sub : ∀ y c, cl.lookup y = some c -> X.env.cells.lookup y = some c
 has : ∀ y, ((relabel scope X.env).names.lookup y = some .cell ∨ (relabel scope X.env).names.lookup y = some .free) -> ∃ c, cl.lookup y = some c
 fvs : ∀ p ∈ fv, X.N[p.1]? = some p.2 ∧ (X.env.scope.names.lookup p.2 = some .cell ∨ X.env.scope.names.lookup p.2 = some .free) ∧
  ((relabel scope X.env).names.lookup p.2 = some .cell ∨ (relabel scope X.env).names.lookup p.2 = some .free) ∧ ∃ c, cl.lookup p.2 = some c
section
variable {X : Cx} {elt iter : Expr} {x z z3 : Str} {px pz p3 : Pos} {tk : Nat} {tpos : Pos} {fv : List (Nat × Str)} {scope : Scope} {cl : List (Str × Addr)} {pos : Pos} {te : TE} {wi : TI}
theorem blk_ok3 {pins : List (Addr × Obj)} {σ : St} {H : Hp} {s : Shared} {fp : List Addr} {C : Addr} (B : BlkOk3 X x z z3 fv scope cl) (I : Inv X pins σ H s) (hf : ∀ b ∈ fp, FpOk X pins H b) (hC : s.heap.objs.size <= C) (hfC : ∀ b ∈ fp, b ≠ C) :
  (blk3 X x z z3 fv scope cl C s H fp).Ok where
 mod := I.ok.mod
 kind := B.kind
 glob := I.ok.glob
 blt := I.ok.blt
 above := hC
 inj := fun y y' c h1 h2 => I.ok.inj y y' c (B.sub y c h1) (B.sub y' c h2)
 has := fun y hy => B.has y hy
 cab := fun y c h => nomatch h
 hd := I.ok.hd
 frames := I.ok.frames
 stk := .inl rfl
 exf := fun b hb => ⟨hfC b hb, fun y c e => (hf b hb).2.2.2.2.1 y c (B.sub y c e)⟩
 bs := I.bs
 bsz := Nat.le_trans I.ok.bsz I.sz
 noex := fun b o e hb => by
  obtain ⟨_, _, _, f3, _⟩ := hf b hb
  rcases f3 with z' | z'
  ·exact I.ok.noex b o e z'
  ·exact absurd (Nat.lt_of_lt_of_le (Heap.lt_size e) (Nat.le_trans I.ok.bsz z')) (Nat.lt_irrefl _)
 exfs := fun b hb hs => by
  obtain ⟨_, f1, f2, _⟩ := hf b hb
  rcases List.mem_cons.mp (I.stkSub b hs) with z | z
  ·exact f1 z
  ·exact f2 z
 funs := I.stack
 frf := I.stkFree
theorem bst_get3 {fv : List (Nat × Str)} {σ : St} {o o2 o3 : Option V} {j : Nat} {y : Str} {v : V} (h1 : (x :: z :: z3 :: fv.map (·.2))[j + 3]? = some y) (h2 : (bst3 fv σ o o2 o3)[j + 3]? = some (some v)) : ∃ p ∈ fv, p.2 = y ∧ σ[p.1]? = some (some v) := by
 have e1 : (fv.map (·.2))[j]? = some y := by simpa using h1
 have e2 : (fv.map fun p => (σ[p.1]?).getD none)[j]? = some (some v) := by simpa [bst3] using h2
 rw [List.getElem?_map] at e1 e2
 cases q : fv[j]? with
 | none => rw [q] at e1; cases e1
 | some p =>
  rw [q] at e1 e2
  refine ⟨p, List.mem_of_getElem? q, Option.some.inj e1, ?_⟩
  have e3 : (σ[p.1]?).getD none = some v := Option.some.inj e2
  cases r : σ[p.1]? with
  | none => rw [r] at e3; cases e3
  | some w => rw [r] at e3; exact congrArg some e3
theorem blk_start3 {pins : List (Addr × Obj)} {σ : St} {H : Hp} {s s4 : Shared} {fp : List Addr} {C : Addr} {m : Str -> Option Value} (B : BlkOk3 X x z z3 fv scope cl) (I : Inv X pins σ H s) (hf : ∀ b ∈ fp, FpOk X pins H b) (hC : C = s.heap.objs.size)
  (hfC : ∀ b ∈ fp, b ≠ C) (os : s4.os = s.os) (gens : s4.gens = s.gens) (keep : ∀ b o, s.heap.get? b = some o -> s4.heap.get? b = some o) (ns : s4.heap.Ns C m) :
  Inv (blk3 X x z z3 fv scope cl C s H fp) [] (bst3 fv σ none none none) H s4 := by
 subst hC
 refine ⟨blk_ok3 B I hf (Nat.le_refl _) hfC, os, by rw [gens]; exact I.bare, Un.kept keep, ⟨m, ns, fun i y v h1 h2 h3 => ?_⟩, fun y c e => ?_, I.hok.fresh (Nat.le_refl _), fun y c e => I.freeC y c (B.sub y c e), fun p hp => absurd (show p ∈ ([] : List (Addr × Obj)) from hp) (by simp), I.hok.kept keep, by simp [bst3]⟩
 ·cases i with
  | zero => simp [bst3] at h2
  | succ j =>
   cases j with
   | zero => simp [bst3] at h2
   | succ j =>
   cases j with
   | zero => simp [bst3] at h2
   | succ j =>
   obtain ⟨p, hp, rfl, hv⟩ := bst_get3 h1 h2
   obtain ⟨hN, hk, hk2, c, hc⟩ := B.fvs p hp
   obtain ⟨m0, _, hl⟩ := I.loc
   have vis : Vis X.env.scope p.2 := hk.elim (fun z => .inr (.inl z)) fun z => .inr (.inr z)
   obtain ⟨u, r, l⟩ := hl p.1 p.2 v hN hv vis
   refine ⟨u, r, .inr ⟨hk2, c, hc, ?_⟩⟩
   rcases l with ⟨z, _⟩ | ⟨_, c', hc', o, ho, hd⟩
   ·have z' : X.env.scope.names.lookup p.2 = some .local := z
    rcases hk with k | k <;> (rw [k] at z'; cases z')
   ·have := B.sub p.2 c hc
    rw [hc'] at this; cases this
    exact ⟨o, keep _ o ho, hd⟩
 ·obtain ⟨v, o, ho, hd⟩ := I.cell y c (B.sub y c e)
  exact ⟨v, o, keep c o ho, hd⟩
theorem blk_store3 {s : Shared} {H0 : Hp} {fp : List Addr} {C : Addr} (hc : X.calm = true) (B : BlkOk3 X x z z3 fv scope cl) :
  PG (blk3 X x z z3 fv scope cl C s H0 fp) (.Tuple [.Name x px, .Name z pz, .Name z3 p3] tk tpos) (gTup X.K 3 (gCons (gName 0) (gCons (gName 1) (gCons (gName 2) gNil)))) := by
 have h1 : (relabel scope X.env).names.lookup x = some .local := lookup_relabel_local B.here
 have h2 : (relabel scope X.env).names.lookup z = some .local := lookup_relabel_local B.here2
 have h3 : (relabel scope X.env).names.lookup z3 = some .local := lookup_relabel_local B.here3
 exact pg_tup (X := blk3 X x z z3 fv scope cl C s H0 fp) hc (pgs_cons (pg_name (i := 0) B.nd rfl (.inl h1) (.inr h1)) (pgs_cons (pg_name (i := 1) B.nd rfl (.inl h2) (.inr h2)) (pgs_cons (pg_name (i := 2) B.nd rfl (.inl h3) (.inr h3)) pgs_nil)))
theorem blk_run3 {pins : List (Addr × Obj)} {σ : St} {H : Hp} {s2 : Shared} {it : Addr} {fp : List Addr} {tn : Nat -> Heap -> Prop} {J : It} {Q : VK} {E : Value -> Shared -> Prop} {RR : Value -> Addr -> Result -> Shared -> Prop}
  (hc : X.calm = true) (B : BlkOk3 X x z z3 fv scope cl) (he : ∀ C s H fp, PE (blk3 X x z z3 fv scope cl C s H fp) elt te) (I : Inv X pins σ H s2) (T : Turn X.prog X.w X.K (.Tuple [.Name x px, .Name z pz, .Name z3 p3] tk tpos) J fp it tn) (st : tn 0 s2.heap) (hf : ∀ b ∈ fp, FpOk X pins H b)
  (rd : ∀ D, H D = none -> ∃ W : Nat -> Nat -> Hp -> Prop, (∃ m, W 0 m (upd H D (.lst []))) ∧ ∀ i m H, W i m H ->
   (J.stop i H ∧ Q (.ref D) H) ∨ (J.go i H ∧ ∃ N : Hp -> Prop, (∀ H', N H' -> ∃ m', m' < m ∧ W (i + 1) m' H') ∧ ∀ v H', J.yld i H v H' -> ∃ q x1 x2 x3, v = .ref q ∧ SqT X.K H' q [x1, x2, x3] ∧ te (bst3 fv σ (some x1) (some x2) (some x3)) H' fun y H2 => ∃ ys, H2 D = some (.lst ys) ∧ ys.length < sizeLine ∧ N (upd H2 D (.lst (ys ++ [y])))))
  (hRR : ∀ D C s' H' m', Inv X pins σ H' s' -> FpOk X pins H' C -> s'.heap.Ns C m' -> Q (.ref D) H' -> RR (.ref D) C (.ok .next) s') :
  wpAny (model X.prog X.w) X.A (newList []) (fun acc s₃ => wpAny (model X.prog X.w) X.A (newFunctionEnv scope X.env.globals cl [] X.env.qual none .none (some X.env)) (fun cenv s₄ =>
   codeAny (model X.prog X.w) X.A (.compStart (.ListComp elt [⟨(.Tuple [.Name x px, .Name z pz, .Name z3 p3] tk tpos), iter, [], 0⟩] scope pos) 0 (.ref it) acc { cenv with scope := relabel scope X.env }) (RR acc cenv.locals) s₄) E s₃) E s2 := by
 refine wpAny_newObj_type ?_ (by show 0 <= sizeLine; exact Nat.zero_le _)
 have hD : H s2.heap.objs.size = none := I.hok.fresh (Nat.le_refl _)
 have I3 := I.lnew (ys := []) (its := []) (t' := s2.toks) .nil (Nat.zero_le _)
 generalize hs3 : ({ s2 with heap := s2.heap.push { cls := .type "list", data := .seq ([] : List Value).toArray }, toks := s2.toks } : Shared) = s3 at I3
 have sz3 : s3.heap.objs.size = s2.heap.objs.size + 1 := by rw [← hs3]; exact Heap.size_push ..
 have up3 : ∀ b o, s2.heap.get? b = some o -> s3.heap.get? b = some o := fun b o e => by rw [← hs3]; exact Heap.get?_push_of_some _ e
 have hf3 : ∀ b ∈ fp, FpOk X pins (upd H s2.heap.objs.size (.lst [])) b := fun b hb => by
  obtain ⟨f0, r⟩ := hf b hb
  refine ⟨?_, r⟩
  obtain ⟨o, e, _⟩ := T.obj 0 _ st b hb
  rw [upd_ne (Nat.ne_of_lt (Heap.lt_size e))]; exact f0
 have ltf : ∀ b ∈ fp, b < s2.heap.objs.size := fun b hb => by
  obtain ⟨o, e, _⟩ := T.obj 0 _ st b hb
  exact Heap.lt_size e
 have st3 : tn 0 s3.heap := T.keep 0 _ _ st fun b _ o e => up3 b o e
 obtain ⟨W, ⟨m0, w0⟩, turn⟩ := rd _ hD
 refine wpAny_newFunctionEnv B.nocell (by intro y hy; simp at hy) (fun h₁ hns₁ hsb₁ => ?_) B.kind
 have hfC : ∀ b ∈ fp, b ≠ s3.heap.objs.size := fun b hb => Nat.ne_of_lt (by rw [sz3]; exact Nat.lt_succ_of_lt (ltf b hb))
 have up4 : ∀ b o, s3.heap.get? b = some o -> h₁.get? b = some o := fun b o e => hsb₁.extBut b o (Nat.ne_of_lt (Heap.lt_size e)) (Heap.get?_push_of_some _ e)
 generalize hs4 : ({ s3 with heap := h₁, toks := s3.toks + ([] : List (Str × Value)).length } : Shared) = s4
 have h4 : s4.heap = h₁ := by rw [← hs4]
 have I4 : Inv (blk3 X x z z3 fv scope cl s3.heap.objs.size s3 (upd H s2.heap.objs.size (.lst [])) fp) [] (bst3 fv σ none none none) (upd H s2.heap.objs.size (.lst [])) s4 :=
  blk_start3 B I3 hf3 rfl hfC (by rw [← hs4]) (by rw [← hs4]) (fun b o e => by rw [h4]; exact up4 b o e) (by rw [h4]; exact hns₁)
 have st4 : tn 0 s4.heap := by rw [h4]; exact T.keep 0 _ _ st3 fun b _ o e => up4 b o e
 have stat : ∀ {H' : Hp}, (∀ b ∈ fp, H' b = none) -> ∀ b ∈ fp, FpOk (blk3 X x z z3 fv scope cl s3.heap.objs.size s3 (upd H s2.heap.objs.size (.lst [])) fp) [] H' b := fun {H'} hn b hb => by
  obtain ⟨_, f1, f2, f3, f4, f5⟩ := hf b hb
  refine ⟨hn b hb, hfC b hb, fun z' => ?_, .inl hb, fun y c e => f4 y c (B.sub y c e), fun p hp => absurd (show p ∈ ([] : List (Addr × Obj)) from hp) (by simp)⟩
  rcases List.mem_cons.mp (I.stkSub b z') with q | q
  ·exact f1 q
  ·exact f2 q
 have loop : codeAny (model X.prog X.w) X.A (.compLoop (.ListComp elt [⟨(.Tuple [.Name x px, .Name z pz, .Name z3 p3] tk tpos), iter, [], 0⟩] scope pos) 0 (.ref it) (.ref s2.heap.objs.size) (compEnvC scope cl s3.heap.objs.size X.env)) (RR (.ref s2.heap.objs.size) s3.heap.objs.size) s4 := by
  refine compLoop_one (fun n s' => ∃ i H' o o2 o3, Inv (blk3 X x z z3 fv scope cl s3.heap.objs.size s3 (upd H s2.heap.objs.size (.lst [])) fp) [] (bst3 fv σ o o2 o3) H' s' ∧ tn i s'.heap ∧ (∀ b ∈ fp, H' b = none) ∧ W i n H') ?_ m0
   ⟨0, _, none, none, none, I4, st4, fun b hb => (hf3 b hb).1, w0⟩
  rintro n s5 E' ⟨i, H5, o5, o6, o7, I5, st5, fr5, w5⟩
  rcases turn i n H5 w5 with ⟨stop, q⟩ | ⟨go, N, hN, step⟩
  ·refine thn (T.done (blk3 X x z z3 fv scope cl s3.heap.objs.size s3 (upd H s2.heap.objs.size (.lst [])) fp) rfl rfl rfl hc i [] s5 _ H5 _ I5 (stat fr5) st5 stop) fun r s6 ⟨hr, I6⟩ => ?_
   subst hr
   obtain ⟨m6, hn6, _⟩ := I6.loc
   have un : Un (frs X.stack) fp H H5 s2.heap s6.heap := by
    have u1 : Un (frs X.stack) fp H (upd H s2.heap.objs.size (.lst [])) s2.heap s3.heap := Un.laid up3 (Nat.le_refl _) hD
    exact u1.trans I6.base
   have J6 : Inv X pins σ H5 s6 := by
    refine I.call' ?_ un I6.hok I6.bare fun b hb => ?_
    ·have := I6.os
     rw [show (blk3 X x z z3 fv scope cl s3.heap.objs.size s3 (upd H s2.heap.objs.size (.lst [])) fp).s₀.os = s2.os by rw [← hs3]] at this
     exact this
    ·obtain ⟨_, f1, f2, f3, f4, f5⟩ := hf b hb
     exact ⟨f3, f1, f4, f5⟩
   refine hRR _ _ s6 H5 m6 J6 ?_ hn6 q
   exact I3.fpOk (Nat.le_refl _) I6.free
  ·refine thn (T.item (blk3 X x z z3 fv scope cl s3.heap.objs.size s3 (upd H s2.heap.objs.size (.lst [])) fp) rfl rfl rfl hc i [] s5 _ H5 _ I5 (stat fr5) st5 go) fun r s6 ⟨u, hr, h6⟩ => ?_
   subst hr
   refine thn h6 fun _ s7 ⟨v, H7, I7, r7, y7, st7, fr7⟩ => ?_
   have I7' := I7.pinned (stat fr7) (T.obj _ _ st7)
   obtain ⟨q7, x1, x2, x3, ev, sq7, rd7⟩ := step v H7 y7
   refine wpAny_mono (blk_store3 (px := px) (pz := pz) (p3 := p3) (tk := tk) (tpos := tpos) hc B _ s7 _ H7 v u (fun σ' H' => σ' = bst3 fv σ (some x1) (some x2) (some x3) ∧ H' = H7) I7' r7 ⟨q7, [x1, x2, x3], ev, sq7, rfl, x1, [x2, x3], rfl, x2, [x3], rfl, x3, [], rfl, rfl, rfl, rfl⟩) (fun _ s8 ⟨σ8, H8, I8, e8a, e8b⟩ => ?_) fun _ _ z => False.elim z
   subst e8a e8b
   have e8 := he _ _ _ _ _ s8 _ _ _ I8 rd7
   refine wpAny_mono e8 (fun y s9 ⟨yv, H9, I9, r9, ys, hD9, hz, n9⟩ => ?_) fun _ _ z => False.elim z
   have a9 := mt_append (X := blk3 X x z z3 fv scope cl s3.heap.objs.size s3 (upd H s2.heap.objs.size (.lst [])) fp) _ s9 _ H9 (.ref s2.heap.objs.size) [yv] (.ref s2.heap.objs.size) [y] (fun _ H10 => H10 = upd H9 s2.heap.objs.size (.lst (ys ++ [yv]))) I9 rfl (.cons r9 .nil)
    ⟨_, ys, yv, rfl, rfl, hD9, hz, rfl⟩
   refine wpAny_mono a9 (fun _ s10 ⟨_, H10, I10, _, e10⟩ => ?_) fun _ _ z => False.elim z
   subst e10
   obtain ⟨m', hm, w9⟩ := hN _ n9
   refine ⟨m', hm, i + 1, _, some x1, some x2, some x3, I10.unpinned, T.keep _ _ _ st7 fun b hb o e => (I10.pin (b, o) (List.mem_append_right _ (List.mem_append_right _ (mem_pinsAt hb e)))).1, fun b hb => ?_, w9⟩
   obtain ⟨o, e, _⟩ := T.obj _ _ st7 b hb
   exact (I10.pin (b, o) (List.mem_append_right _ (List.mem_append_right _ (mem_pinsAt hb e)))).2.1
 exact codeAny_compStart_list loop (T.self _ 0 _ _ _ st4 loop)
def CLoop3 (K : PySem.W.Frag) (J : It) (fv : List (Nat × Str)) (te : TE) (Q : VK) (σ : St) (H1 : Hp) (D : Addr) : Prop := ∃ W : Nat -> Nat -> Hp -> Prop, (∃ m, W 0 m (upd H1 D (.lst []))) ∧ ∀ i m H, W i m H ->
 (J.stop i H ∧ Q (.ref D) H) ∨ (J.go i H ∧ ∃ N : Hp -> Prop, (∀ H', N H' -> ∃ m', m' < m ∧ W (i + 1) m' H') ∧ ∀ v H', J.yld i H v H' -> ∃ q x1 x2 x3, v = .ref q ∧ SqT K H' q [x1, x2, x3] ∧ te (bst3 fv σ (some x1) (some x2) (some x3)) H' fun y H2 => ∃ ys, H2 D = some (.lst ys) ∧ ys.length < sizeLine ∧ N (upd H2 D (.lst (ys ++ [y]))))
def tComp3 (K : PySem.W.Frag) (fv : List (Nat × Str)) (wi : TI) (te : TE) : TE := fun σ H Q => wi σ H fun J H1 => ∀ D, H1 D = none -> CLoop3 K J fv te Q σ H1 D
theorem a_tComp3 {K : PySem.W.Frag} {σ : St} {H : Hp} {Q : VK} : tComp3 K fv wi te σ H Q = wi σ H fun J H1 => ∀ D, H1 D = none -> CLoop3 K J fv te Q σ H1 D := rfl
theorem pe_lcomp3 (hc : X.calm = true) (B : BlkOk3 X x z z3 fv scope cl) (hi : PI X (.Tuple [.Name x px, .Name z pz, .Name z3 p3] tk tpos) iter wi) (he : ∀ C s H fp, PE (blk3 X x z z3 fv scope cl C s H fp) elt te)
  (hs : ∀ v, foldedSetIterable iter X.env v = pure v := by intro _; rfl) : PE X (.ListComp elt [⟨.Tuple [.Name x px, .Name z pz, .Name z3 p3] tk tpos, iter, [], 0⟩] scope pos) (tComp3 X.K fv wi te) := by
 intro pins s σ H Q I h
 rw [eval_ListComp]
 refine wpAny_comprehension_free (use := none) rfl hs B.clos B.kind B.names (thn (hi pins s σ H _ I h) fun v s1 h1 => thn h1 fun itv s2 h2 => ?_)
 obtain ⟨it, fp, tn, J, H2, e, I2, T, st2, f2, rd⟩ := h2
 subst e
 refine blk_run3 (RR := fun acc C => compPost (model X.prog X.w) X.A X.xe none (EP X pins σ Q) acc C) hc B he I2 T st2 f2 rd ?_
 intro D C s' H' m' I' fC hn q
 exact ⟨m', hn, fun h' sb => ⟨.ref D, H', I'.turned (t' := s'.toks) (fun b o hb e => (sb.2 b hb).trans e) fC.1 fC.2.1 fC.2.2.2.1 fC.2.2.2.2.1 fC.2.2.2.2.2, rfl, q⟩⟩
theorem blkok3 {X : Cx} {x z z3 : Str} {fv : List (Nat × Str)} {scope : Scope} {cl : List (Str × Addr)} (clos : closureFor scope X.env = pure cl) (sub : ∀ y c, cl.lookup y = some c -> X.env.cells.lookup y = some c) (fvs : FvOk2 X scope cl fv)
  (nd : (x :: z :: z3 :: fv.map (·.2)).Nodup := by decide) (kind : scope.kind = .function := by rfl) (here : scope.names.lookup x = some .local := by rfl) (here2 : scope.names.lookup z = some .local := by rfl) (here3 : scope.names.lookup z3 = some .local := by rfl) (nocell : ∀ y ∈ scope.names, y.2 ≠ .cell := by decide +kernel)
  (names : ∀ y ∈ scope.names, y.2 = .local -> scope.names.lookup y.1 = some .local := by decide +kernel)
  (has : ((relabel scope X.env).names.all fun p => (p.2 != .cell && p.2 != .free) || (cl.lookup p.1).isSome) = true := by rfl) : BlkOk3 X x z z3 fv scope cl :=
 ⟨clos, nocell, kind, names, here, here2, here3, nd, sub, has_of has, fvs⟩
end
def Itz3 (K : PySem.W.Frag) (a b c : Addr) : It :=
 ⟨fun i H => ∃ xs ys zs x y v, SqT K H a xs ∧ SqT K H b ys ∧ SqT K H c zs ∧ xs[i]? = some x ∧ ys[i]? = some y ∧ zs[i]? = some v,
  fun i H v H' => ∃ p x y u, H p = none ∧ v = .ref p ∧ H' = upd H p (.tup [x, y, u]) ∧ (∀ xs, SqT K H a xs -> xs[i]? = some x) ∧ (∀ ys, SqT K H b ys -> ys[i]? = some y) ∧ ∀ zs, SqT K H c zs -> zs[i]? = some u,
  fun i H => ∃ xs, SqT K H a xs ∧ xs.length <= i⟩
theorem turn_zip3 {P : Program} {w : World} {K : PySem.W.Frag} {elts : List Expr} {tk : Nat} {tpos : Pos} (a b c z TI TO i1 i2 i3 : Addr) (D : Zip3 z TI TO i1 i2 i3 a b c) :
  Turn P w K (.Tuple elts tk tpos) (Itz3 K a b c) [z, TI, TO, i1, i2, i3] z (fun i h => IsZip h z TI TO .none ∧ IsTrip h TI (.ref i1) (.ref i2) (.ref i3) ∧ (∃ u v q, IsTrip h TO u v q) ∧ h.IsTupleIter i1 a i ∧ h.IsTupleIter i2 b i ∧ h.IsTupleIter i3 c i) where
 mem := by simp
 obj := fun i h st c hb => by
  obtain ⟨hz, hTI, ⟨u, v, q, hTO⟩, ⟨o1, e1, c1, d1⟩, ⟨o2, e2, c2, d2⟩, ⟨o3, e3, c3, d3⟩⟩ := st
  simp only [List.mem_cons, List.not_mem_nil, or_false] at hb
  rcases hb with rfl | rfl | rfl | rfl | rfl | rfl
  ·exact ⟨_, hz, fun v z => by
    have z' : Data.fields _ = Data.cell v := z
    cases z'⟩
  ·exact ⟨_, hTI, fun v z => by
    have z' : Data.seq _ = Data.cell v := z
    cases z'⟩
  ·exact ⟨_, hTO, fun v z => by
    have z' : Data.seq _ = Data.cell v := z
    cases z'⟩
  ·exact ⟨o1, e1, fun v z => by rw [d1] at z; cases z⟩
  ·exact ⟨o2, e2, fun v z => by rw [d2] at z; cases z⟩
  ·exact ⟨o3, e3, fun v z => by rw [d3] at z; cases z⟩
 keep := fun i h h' st k => by
  obtain ⟨hz, hTI, ⟨u, v, q, hTO⟩, h1, h2, h3⟩ := st
  exact ⟨k z (by simp) _ hz, k TI (by simp) _ hTI, ⟨u, v, q, k TO (by simp) _ hTO⟩, h1.at fun o q => k i1 (by simp) o q, h2.at fun o q => k i2 (by simp) o q, h3.at fun o q => k i3 (by simp) o q⟩
 item := by
  intro X hP hw hK hc i pins s σ H E I hf st hg
  subst hP hw hK
  obtain ⟨xs, ys, zs, x, y, v, hq1, hq2, hq3, hx, hy, hv⟩ := hg
  obtain ⟨its1, rv1, pl1, hz1⟩ := I.tuple hq1
  obtain ⟨its2, rv2, pl2, hz2⟩ := I.tuple hq2
  obtain ⟨its3, rv3, pl3, hz3⟩ := I.tuple hq3
  obtain ⟨u1, hu1, ru1⟩ := rv1.get hx
  obtain ⟨u2, hu2, ru2⟩ := rv2.get hy
  obtain ⟨u3, hu3, ru3⟩ := rv3.get hv
  obtain ⟨hz, hTI, ⟨_, _, _, hTO⟩, hit1, hit2, hit3⟩ := st
  refine pyNext_zip3 D hz hTI hTO hit1 hit2 hit3 pl1 pl2 pl3 (x := u1) (y := u2) (v := u3) (by simpa using hu1) (by simpa using hu2) (by simpa using hu3) fun h1 ho hTO1 hi1 hi2 hi3 hT hk' => ?_
  have hk : ∀ c o, c ≠ z -> c ≠ TO -> c ≠ i1 -> c ≠ i2 -> c ≠ i3 -> s.heap.get? c = some o -> h1.get? c = some o := fun c o n1 n2 n3 n4 n5 e => hk' c o (by simp [n1, n2, n3, n4, n5]) e
  refine ⟨_, rfl, wpAny_letOwnedTupleGo_zip ho fun h2 he2 hs2 => ?_⟩
  have hp : H s.heap.objs.size = none := I.hok.fresh (Nat.le_refl _)
  have hpz : s.heap.objs.size ≠ z := Nat.ne_of_gt (Heap.lt_size hz)
  have k2 : ∀ c o, c ∉ [z, TI, TO, i1, i2, i3] -> s.heap.get? c = some o -> h2.get? c = some o := fun c o hb q =>
   (hs2.2 c fun e => hb (by simp [e])).trans (hk c o (fun e => hb (by simp [e])) (fun e => hb (by simp [e])) (fun e => hb (by simp [e])) (fun e => hb (by simp [e])) (fun e => hb (by simp [e])) q)
  have hT2 : h2.get? s.heap.objs.size = some { cls := .type "tuple", data := .seq #[u1, u2, u3] } := (hs2.2 _ hpz).trans hT
  have nch : ∀ c u, H c = some u -> c ∉ [z, TI, TO, i1, i2, i3] := fun c u q hb => by
   rw [(hf c hb).1] at q; cases q
  have up : ∀ c, c < s.heap.objs.size -> c ≠ s.heap.objs.size := fun c hb => Nat.ne_of_lt hb
  have I2 : Inv X pins σ (upd H s.heap.objs.size (.tup [x, y, v])) { s with heap := h2 } := by
   refine I.step (g' := s.gens) (d' := s.drawn) (t' := s.toks) (ch := [z, TI, TO, i1, i2, i3]) (fun c hb => ?_) (fun c o _ _ hc q _ => k2 c o hc q) (fun c o _ _ hc q _ => ⟨o.slots, k2 c o hc q⟩)
    (fun c o _ q n => by rw [upd_ne (up c (Heap.lt_size q))]; exact n) (fun c o hc q => ⟨o, k2 c o hc q⟩) (fun c ys q => by rw [upd_ne (ne_of_none q hp)]; exact q) (fun c o v q => by rw [upd_ne (ne_of_none q hp)]; exact q)
    (fun c ps q => ⟨#[], by rw [upd_ne (ne_of_none q hp), q]; simp⟩) (fun m hm => ?_) (fun c v q => ?_) I.bare
   ·obtain ⟨f0, f1, f2, f3, f4, f5⟩ := hf c hb
    exact ⟨f3, f1, f4, f5⟩
   ·obtain ⟨o, es, ep, q, r⟩ := hm
    refine ⟨o, es, ep, k2 _ o (fun e => ?_) q, r⟩
    exact (hf _ e).2.1 rfl
   ·by_cases hb : c = s.heap.objs.size
    ·subst hb
     rw [upd_same] at q; cases q
     exact ⟨by show 3 <= sizeLine; decide, [u1, u2, u3], .cons ru1 (.cons ru2 (.cons ru3 .nil)), ⟨_, hT2, rfl, _, rfl⟩⟩
    ·rw [upd_ne hb] at q
     refine (I.hok c v q).stay (fun c' o hc r => k2 c' o ?_ r) (fun c' r => by rw [upd_ne (ne_of_none r hp)]; exact r) fun c' ys r => by rw [upd_ne (ne_of_none r hp)]; exact r
     rcases hc with e | e
     ·rw [e]; exact nch c v q
     ·exact nch c' _ e
  refine ⟨.ref s.heap.objs.size, _, I2, rfl, ⟨_, x, y, v, hp, rfl, rfl, fun zs hz' => by rw [I.tuple_inj hz' hq1]; exact hx, fun zs hz' => by rw [I.tuple_inj hz' hq2]; exact hy, fun zs hz' => by rw [I.tuple_inj hz' hq3]; exact hv⟩,
   ⟨he2, (hs2.2 TI D.TIz).trans (hk TI _ D.TIz D.TITO D.TIi1 D.TIi2 D.TIi3 hTI), ⟨_, _, _, (hs2.2 TO D.TOz).trans hTO1⟩, hi1.at fun o q => (hs2.2 i1 D.i1z).trans q, hi2.at fun o q => (hs2.2 i2 D.i2z).trans q, hi3.at fun o q => (hs2.2 i3 D.i3z).trans q⟩, fun c hb => ?_⟩
  have lb : c < s.heap.objs.size := by
   simp only [List.mem_cons, List.not_mem_nil, or_false] at hb
   rcases hb with rfl | rfl | rfl | rfl | rfl | rfl
   ·exact Heap.lt_size hz
   ·exact Heap.lt_size hTI
   ·exact Heap.lt_size hTO
   ·obtain ⟨_, q, _⟩ := hit1; exact Heap.lt_size q
   ·obtain ⟨_, q, _⟩ := hit2; exact Heap.lt_size q
   ·obtain ⟨_, q, _⟩ := hit3; exact Heap.lt_size q
  rw [upd_ne (up c lb)]
  exact (hf c hb).1
 done := by
  intro X hP hw hK hc i pins s σ H E I hf st hg
  subst hP hw hK
  obtain ⟨xs, hq1, hx⟩ := hg
  obtain ⟨its1, rv1, pl1, hz1⟩ := I.tuple hq1
  obtain ⟨hz, hTI, ⟨_, _, _, hTO⟩, hit1, hit2, hit3⟩ := st
  have hl1 := rv1.length
  refine pyNext_zip3End (I.ok.hd hc) D hz hTI hit1 pl1 (by simp; omega) fun h' eb' => ⟨rfl, ?_⟩
  have k2 : ∀ c o, c ∉ [z, TI, TO, i1, i2, i3] -> s.heap.get? c = some o -> h'.get? c = some o := fun c o hb q => eb' c o (fun e => hb (by
   simp only [List.mem_cons, List.not_mem_nil, or_false] at e ⊢
   rcases e with e | e | e | e | e <;> simp [e])) q
  refine I.step (g' := s.gens) (d' := s.drawn) (t' := s.toks) (ch := [z, TI, TO, i1, i2, i3]) (fun c hb => ?_) (fun c o _ _ hc q _ => k2 c o hc q) (fun c o _ _ hc q _ => ⟨o.slots, k2 c o hc q⟩)
   (fun c o _ q n => n) (fun c o hc q => ⟨o, k2 c o hc q⟩) (fun c ys q => q) (fun c o v q => q) (fun c ps q => ⟨#[], by rw [q]; simp⟩) (fun m hm => ?_) (fun c v q => ?_) I.bare
  ·obtain ⟨f0, f1, f2, f3, f4, f5⟩ := hf c hb
   exact ⟨f3, f1, f4, f5⟩
  ·obtain ⟨o, es, ep, q, r⟩ := hm
   exact ⟨o, es, ep, k2 _ o (fun e => (hf _ e).2.1 rfl) q, r⟩
  ·refine (I.hok c v q).stay (fun c' o hc r => k2 c' o ?_ r) (fun c' r => r) fun c' ys r => r
   have nch : ∀ c u, H c = some u -> c ∉ [z, TI, TO, i1, i2, i3] := fun c u q hb => by
    rw [(hf c hb).1] at q; cases q
   rcases hc with e | e
   ·rw [e]; exact nch c v q
   ·exact nch c' _ e
 self := fun _ _ _ _ _ st h => wpAny_pyIter_zip st.1 h
section
variable {X : Cx}
def iZip3 (K : PySem.W.Frag) (ta : TA) : TI := fun σ H R => ta σ H fun vs H1 => ∃ a b c xs ys zs, vs = [.ref a, .ref b, .ref c] ∧ SqT K H1 a xs ∧ SqT K H1 b ys ∧ SqT K H1 c zs ∧ R (Itz3 K a b c) H1
theorem a_izip3 {K : PySem.W.Frag} {ta : TA} {σ : St} {H : Hp} {R : It -> Hp -> Prop} : iZip3 K ta σ H R = ta σ H fun vs H1 => ∃ a b c xs ys zs, vs = [.ref a, .ref b, .ref c] ∧ SqT K H1 a xs ∧ SqT K H1 b ys ∧ SqT K H1 c zs ∧ R (Itz3 K a b c) H1 := rfl
theorem pi_zip3 {elts : List Expr} {tk : Nat} {tpos : Pos} {a b c : Expr} {ta : TA} {p pos : Pos} (hg : Gl X "zip") (hm : X.mg "zip" = none) (ha : PA X [a, b, c] ta) (hs : starEach [a, b, c] X.env = (false, eval a X.env) :: starEach [b, c] X.env := by rfl)
  (hs2 : (backTo pos (starEach [b, c] X.env)).any (·.1) = false := by rfl) :
  PI X (.Tuple elts tk tpos) (.Call (.Name "zip" p) [a, b, c] [] pos) (iZip3 X.K ta) := by
 intro pins s σ H R I h
 refine Call_ (ld_blt I hg hm boot_zip (PyProof.Rows.callWith_type1 (thn (ha pos pins s σ H _ I h) fun us s1 ⟨vs, H1, I1, r1, q1⟩ => ?_) hs hs2))
 obtain ⟨a, b, c, xs, ys, zs, e, hq1, hq2, hq3, q⟩ := q1
 subst e
 cases r1 with
 | cons r rr =>
  cases rr with
  | cons r' rr =>
  cases rr with
  | cons r'' rr =>
  cases rr
  cases r
  cases r'
  cases r''
  have fr : ∀ c, c ∈ [s1.heap.objs.size + 5, s1.heap.objs.size + 3, s1.heap.objs.size + 4, s1.heap.objs.size, s1.heap.objs.size + 1, s1.heap.objs.size + 2] -> s1.heap.objs.size <= c := fun c hb => by
   simp only [List.mem_cons, List.not_mem_nil, or_false] at hb
   rcases hb with rfl | rfl | rfl | rfl | rfl | rfl <;> omega
  obtain ⟨its1, rv1, pl1, hz1⟩ := I1.tuple hq1
  obtain ⟨its2, rv2, pl2, hz2⟩ := I1.tuple hq2
  obtain ⟨its3, rv3, pl3, hz3⟩ := I1.tuple hq3
  have a1 : a < s1.heap.objs.size := by obtain ⟨_, e, _⟩ := pl1; exact Heap.lt_size e
  have a2 : b < s1.heap.objs.size := by obtain ⟨_, e, _⟩ := pl2; exact Heap.lt_size e
  have a3 : c < s1.heap.objs.size := by obtain ⟨_, e, _⟩ := pl3; exact Heap.lt_size e
  refine call_zip3 pl1 pl2 pl3 fun h1 hz hTI hTO hi1 hi2 hi3 hk => wpAny_pyIter_zip hz ?_
  exact ⟨_, _, _, _, H1, rfl, I1.kept (t' := s1.toks) hk, turn_zip3 a b c _ _ _ _ _ _ (zip3_new a1 a2 a3), ⟨hz, hTI, ⟨_, _, _, hTO⟩, hi1, hi2, hi3⟩, fun c hb => I1.fpOk (fr c hb) (I1.hok.fresh (fr c hb)), q⟩
end
theorem bools_are {bs : List Bool} {us : List Value} : Vals (bs.map V.bl) us -> PyProof.Rows.LSm.BoolsAre us bs := by
 induction bs generalizing us with
 | nil => intro h; cases h; exact .nil
 | cons b bs ih => intro h; cases h with | cons r rr => cases r; exact .cons b (ih rr)
section
variable {X : Cx}
theorem call_allL (hc : X.calm = true) : CallR X (.builtin "all") (fun xs H Q => ∃ (p : Addr) (bs : List Bool), xs = [.ref p] ∧ SqL X.K H p (bs.map V.bl) ∧ Q (.bl (bs.all id)) H) := by
 intro pins s σ H xs us Q I r h
 obtain ⟨p, bs, rfl, hq, q⟩ := h
 obtain ⟨u, rfl, rx⟩ := vals1 r
 cases rx
 obtain ⟨its, r', pl, hz⟩ := I.list hq
 have hb := bools_are r'
 have hl := pl.isList
 have hlt : p < s.heap.objs.size := by obtain ⟨_, e, _⟩ := hl; exact Heap.lt_size e
 refine call_all_walk (wpAny_pyIter_list hl ?_)
 refine ⟨s.heap.objs.size, [s.heap.objs.size, p], [s.heap.objs.size], its.toArray.size, _, _, fun i => (bs[i]?).getD true, rfl, Walks.list (A := X.A.in1) (I.ok.hd hc) _ p (Nat.ne_of_lt hlt) its.toArray,
  ⟨⟨_, Heap.get?_push_size _ rfl, rfl, rfl⟩, hl.push _⟩, fun i v s' Q' E' hP hQ => ?_, fun h' tk hk => ?_⟩
 ·obtain ⟨b, e, rfl⟩ := hb.get i v (by simpa using hP)
  simp only [e, Option.getD_some] at hQ
  exact wpAny_truthy_bool hQ
 ·have e : ((List.range its.toArray.size).all fun i => (bs[i]?).getD true) = bs.all id := by
   rw [List.size_toArray, hb.length]; exact PyProof.Rows.LSm.range_all bs
  rw [e]
  exact ⟨.bl _, H, I.kept (PyProof.Rows.LSm.kept_iter hk), rfl, q⟩
def tMake0 (C : Addr) : TE := fun _ H Q => ∀ x dx, H x = none -> H dx = none -> dx ≠ x -> Q (.ref x) (upd (upd H dx (.own x)) x (.ins C dx []))
theorem a_make0 {C : Addr} {σ : St} {H : Hp} {Q : VK} : tMake0 C σ H Q = ∀ x dx, H x = none -> H dx = none -> dx ≠ x -> Q (.ref x) (upd (upd H dx (.own x)) x (.ins C dx [])) := rfl
end
theorem a_eqS {x y : Str} {H : Hp} {Q : VK} : rEq (.str x) (.str y) H Q = Q (.bl (decide (x = y))) H := by
 unfold rEq
 simp [scal]
end L2
namespace L2
open PySem PySem.Spec PyProof.Rows
end L2
namespace L2
open PySem PySem.Spec PyProof.Rows
section
variable {X : Cx} {elt iter : Expr} {x : Str} {px : Pos} {fv : List (Nat × Str)} {scope : Scope} {cl : List (Str × Addr)} {pos : Pos} {te : TE} {wi : TI}
end
end L2
namespace L2
open PySem PySem.Spec PyProof.Rows
section
variable {X : Cx} {elt iter : Expr} {x : Str} {px : Pos} {fv : List (Nat × Str)} {scope : Scope} {cl : List (Str × Addr)} {pos : Pos} {te : TE} {wi : TI}
end
end L2
namespace L2
open PySem PySem.Spec PyProof.Rows
end L2
namespace L2
open PySem PySem.Spec PyProof.Rows
section
variable {X : Cx} {k : Nat} {f : Addr} {fd : FuncData} {ps : List Str} {sp : Sp} {x : Str} {p pos : Pos} {e : Expr} {es : List Expr} {t : TA} {CX : CXT} {ds : List Value} {dvs : List V} {E : XK} {i : Nat}
end
end L2
namespace L2
open PySem
section
variable {K : Type} [DecidableEq K] {prog : Program} {w : World} {A : Around} {E : Value -> Shared -> Prop} {s : Shared} {knd : HeapKind prog w K}
end
section
variable {K : Type} [DecidableEq K]
end
end L2
namespace L2
open PySem PySem.Spec PyProof.Rows
section
variable {X : Cx}
end
end L2
namespace L2
open PySem PySem.Spec PyProof.Rows
theorem compLoop_err {prog : Program} {w : World} {A : Around} {R : Result -> Shared -> Prop} {s : Shared} {elt target iter : Expr} {scope : Scope} {pos : Pos} {it acc : Value} {env : Env} (I : Nat -> Shared -> Prop)
  (turn : ∀ n s, I n s -> wpAny (model prog w) A (pyNext it) (fun r s₁ => match r with
   | none => R (.ok .next) s₁
   | some v => wpAny (model prog w) A (letOwnedTupleGo target it v) (fun _ s₂ => wpAny (model prog w) A (assign target env v) (fun _ s₃ => wpAny (model prog w) A (eval elt env) (fun x s₄ =>
     wpAny (model prog w) A (call (.builtin "list.append") [acc, x]) (fun _ s₅ => ∃ m, m < n ∧ I m s₅) (notedBy (model prog w) A env fun x s' => R (.error x) s') s₄) (notedBy (model prog w) A env fun x s' => R (.error x) s') s₃) (notedBy (model prog w) A env fun x s' => R (.error x) s') s₂) (notedBy (model prog w) A env fun x s' => R (.error x) s') s₁) (notedBy (model prog w) A env fun x s' => R (.error x) s') s)
  (n : Nat) (h : I n s) : codeAny (model prog w) A (.compLoop (.ListComp elt [⟨target, iter, [], 0⟩] scope pos) 0 it acc env) R s := by
 refine codeAny_loop rfl I (fun n s hI => ?_) n h
 show wpAny _ _ ((compTurn (.ListComp elt [⟨target, iter, [], 0⟩] scope pos) 0 it acc env).onRaise (fun x => do noteFrame x env; theTreesLotGoes x)) _ _ s
 refine wpAny_noted ?_
 rw [PySem.compTurn_list1]
 refine wpAny_bind (wpAny_standAt (wpAny_bind (wpAny_mono (turn n s hI) (fun r s₁ h₁ => ?_) fun _ _ h' => h')))
 cases r with
 | none => exact wpAny_pure h₁
 | some v => exact wpAny_bind (thn h₁ fun _ s₂ h₂ => wpAny_bind (thn h₂ fun _ s₃ h₃ => wpAny_bind (wpAny_bind (thn h₃ fun x s₄ h₄ => wpAny_bind (thn h₄ fun _ s₅ h₅ => wpAny_pure (wpAny_pure ⟨rfl, h₅⟩))))))
theorem held_but {B h h' : Heap} {l : List Env} {e L C : Addr} {cls a0 : Value} {oC : Obj} (x : Heap.HeldW B l e cls a0 L h) (sb : Heap.SameBut C h h') (hB : B.get? C = none) (hC : h.get? C = some oC) (nf : ∀ vs, oC.data ≠ .fields vs) (nl : C ∉ frs l) : Heap.HeldW B l e cls a0 L h' := by
 obtain ⟨k1, k2, k3, oe, vs, T, oT, ts, he, hc, hd, h1, hnT, hTe, hT, hdT, h3⟩ := x
 have ne : ∀ {b : Addr} {o : Obj} {vs : Array Value}, h.get? b = some o -> o.data = .fields vs -> b ≠ C := fun {b o vs} hb hd z => by
  rw [z, hC] at hb; cases hb; exact nf _ hd
 refine ⟨fun b o q => (sb.2 b fun z => by rw [z, hB] at q; cases q).trans (k1 b o q), k2, ?_, oe, vs, T, oT, ts, (sb.2 e (ne he hd)).trans he, hc, hd, h1, hnT, hTe, (sb.2 T (ne hT hdT)).trans hT, hdT, h3⟩
 have go : ∀ m : List Env, (∀ b ∈ frs m, b ∈ frs l) -> h.FunFrames B m -> h'.FunFrames B m := fun m => by
  induction m with
  | nil => intro _ _; trivial
  | cons env r ih =>
   intro hs hl
   obtain ⟨hk, ⟨L', o, hf, hn, ho, hd⟩, hr⟩ := hl
   have hm : L' ∈ frs (env :: r) := by unfold frs; rw [List.filterMap_cons, hf]; exact List.mem_cons_self
   refine ⟨hk, ⟨L', o, hf, hn, (sb.2 L' fun z => nl (z ▸ hs L' hm)).trans ho, hd⟩, ih (fun b hb => hs b ?_) hr⟩
   unfold frs; rw [List.filterMap_cons, hf]; exact List.mem_cons_of_mem _ hb
 exact go l (fun _ hb => hb) k3
theorem setFlight_held {M : Model} {A : Around} {E : Value -> Shared -> Prop} {s : Shared} {B : Heap} {l : List Env} {e L : Addr} {cls a0 : Value} {Q : Unit -> Shared -> Prop} (x : Heap.HeldW B l e cls a0 L s.heap) (h : Q () s) : wpAny M A (setFlight (.ref e) (some L)) Q E s := by
 obtain ⟨k1, k2, k3, oe, vs, T, oT, ts, he, hc, hd, h1, hnT, hTe, hT, hdT, h3⟩ := x
 unfold setFlight
 refine wpAny_bind (wpAny_field he hd h1 ?_)
 rw [if_pos (show (Value.ref T != Value.none) = true from by simp)]
 refine wpAny_setField hT hdT (Array.getElem?_eq_some_iff.mp h3).1 ?_
 rw [show ((some L).elim Value.none fun f => rawInt f) = rawInt L from rfl, Heap.update_setField_same s.heap T oT ts 3 (rawInt L) hT hdT h3]
 exact h
section
variable {P : Program} {w : World} {K : PySem.W.Frag} {mg : Str -> Option Value} {base : Heap} {N : List Str} {qual : Str} {sc0 : Scope} {f : Addr} {cd : Value} {A : Around} {outer : List Env} {s0 : Shared} {H0 : Hp} {E : XK}
theorem comp_err {pins : List (Addr × Obj)} {σ : St} {H2 H1 : Hp} {s2 s1 s' : Shared} {C : Addr} {m : Str -> Option Value} {fp : List Addr} {e : Value} {cenv : Env} {E3 : Value -> Shared -> Prop} {RE : Value -> Shared -> Prop}
  (I2 : Inv (cxOf (CXE P w) P w K mg base N qual sc0 f cd A outer s0 H0 E) pins σ H2 s2) (hC : s2.heap.objs.size <= C) (un : Un (frs (envOfC qual sc0 s0.heap.objs.size f cd :: outer)) fp H2 H1 s2.heap s1.heap) (hfp : ∀ b ∈ fp, s0.heap.objs.size <= b)
  (ns : s1.heap.Ns C m) (hC1 : H1 C = none) (os : s1.os = s2.os) (c : CXE P w (envOfC qual sc0 s0.heap.objs.size f cd :: outer) H1 s1 E e s') (hfr : cenv.frame = some s0.heap.objs.size)
  (hR : ∀ e h3, (∃ m, h3.Ns C m ∧ ∀ h4, Heap.SameBut C h3 h4 -> wpAny (model P w) (A.deeper (envOfC qual sc0 s0.heap.objs.size f cd)) (PySem.passOn "comprehension.variables-let-go" e cenv : Sem Value) (fun _ _ => False) (cxOf (CXE P w) P w K mg base N qual sc0 f cd A outer s0 H0 E).xe { s' with heap := h4 }) -> RE e { s' with heap := h3 }) :
  wpAny (model P w) (A.deeper (envOfC qual sc0 s0.heap.objs.size f cd)) (noteFrame e cenv) (fun _ s'' => RE e s'') E3 s' := by
 obtain ⟨a, t, Ce, H', B, rfl, os1, bare, fl, G, sl, q⟩ := c
 have hf0 : (envOfC qual sc0 s0.heap.objs.size f cd).frame = some s0.heap.objs.size := rfl
 have e1 : noteFrame (.ref a) cenv = noteFrame (.ref a) (envOfC qual sc0 s0.heap.objs.size f cd) := by
  unfold noteFrame PySem.frameOf
  rw [hfr, hf0]
 rw [e1]
 have hfs : (A.deeper (envOfC qual sc0 s0.heap.objs.size f cd)).frames = some (envOfC qual sc0 s0.heap.objs.size f cd :: outer) := I2.ok.frames
 obtain ⟨oC, esC, epC, hoC, hdC, rC⟩ := id ns
 have sz2 : s0.heap.objs.size <= s2.heap.objs.size := I2.sz
 have nC : C ∉ frs (envOfC qual sc0 s0.heap.objs.size f cd :: outer) := fun z => by
  obtain ⟨_, o, ho, _⟩ := I2.stack.mem z
  exact absurd (Heap.lt_size ho) (Nat.not_lt.mpr hC)
 have BC := G.keep C oC hoC hC1 nC
 refine wpAny_looks_onW hfs hf0 fl fun h3 held up => ?_
 refine hR _ h3 ⟨m, ⟨oC, esC, epC, held.1 _ _ BC, hdC, rC⟩, fun h4 sb => ?_⟩
 have held2 : Heap.HeldW (PySem.W.hideAll B [C]) (envOfC qual sc0 s0.heap.objs.size f cd :: outer) a (.ref Ce) (.ref t) s0.heap.objs.size h4 :=
  held_but (PySem.W.heldW_base (fun b o z => PySem.W.of_hideAll _ z) held) sb (PySem.W.hideAll_none _ (List.mem_singleton_self C)) (held.1 _ _ BC) (fun vs z => by rw [hdC] at z; cases z) nC
 obtain ⟨oe, vs, he, hc', T, h1T, _⟩ : ∃ oe vs, h4.get? a = some oe ∧ oe.data = .fields vs ∧ ∃ T, vs[1]? = some (.ref T) ∧ oe.cls = .ref Ce := by
  obtain ⟨_, _, _, oe, vs, T, _, _, he, hc, hd, h1, _⟩ := id held2
  exact ⟨oe, vs, he, hd, T, h1, hc.1⟩
 unfold PySem.passOn
 refine wpAny_bind (wpAny_field he hc' h1T ?_)
 rw [if_neg (show ¬ ((Value.ref T == Value.none) = true) from by simp)]
 rw [hfr]
 refine wpAny_bind (setFlight_held held2 ?_)
 refine wpAny_throw ?_
 show wpAny (model P w) (A.deeper (envOfC qual sc0 s0.heap.objs.size f cd)) (leaving (envOfC qual sc0 s0.heap.objs.size f cd) (.ref a)) _ _ _
 unfold leaving
 refine wpAny_bind (wpAny_noteFrame_againW hf0 held2.2.2.2 ?_)
 refine wpAny_landsW held2 fun h5 fl5 up5 => ?_
 obtain ⟨k1, k2, ⟨_, _, k3⟩, k4⟩ := fl5
 have noE : ∀ b : Addr, b ∉ (cxOf (CXE P w) P w K mg base N qual sc0 f cd A outer s0 H0 E).ex := fun b z => absurd (show b ∈ ([] : List Addr) from z) (by simp)
 have nfp : ∀ {b : Addr} {o : Obj}, s0.heap.get? b = some o -> b ∉ fp := fun {b o} z hb => absurd (Heap.lt_size z) (Nat.not_lt.mpr (hfp b hb))
 have nbC : ∀ {b : Addr} {o : Obj}, s0.heap.get? b = some o -> b ≠ C := fun {b o} z hb => absurd (Heap.lt_size z) (Nat.not_lt.mpr (hb ▸ Nat.le_trans sz2 hC))
 have hB : ∀ {b : Addr} {o : Obj}, b ≠ C -> B.get? b = some o -> (PySem.W.hideAll B [C]).get? b = some o := fun {b o} n z => PySem.W.hideAll_get _ z (by simpa using n)
 refine ⟨a, t, Ce, H', PySem.W.hideAll B [C], rfl, (os1.trans os).trans I2.os, bare, ⟨k1, k2, k3, k4⟩, ⟨fun b o z n hb => ?_, fun b o z hb => ?_, fun b o z n => ?_, fun b xs z => G.tups b xs (un.tups b xs (I2.base.tups b xs z)), fun b o u z => G.frzs b o u (un.frzs b o u (I2.base.frzs b o u z)), fun b ps z => ?_, ?_⟩, fun b o z hb => ?_, q⟩
 ·have z2 := I2.base.keep b o z n hb (noE b)
  have n2 := I2.base.free b o z n (noE b)
  exact hB (nbC z) (G.keep b o (un.keep b o z2 n2 (nofr0 I2 z hb) (nfp z)) (un.free b o z2 n2 (nfp z)) (nofr0 I2 z hb))
 ·obtain ⟨o2, z2⟩ := I2.base.there b o z (noE b)
  obtain ⟨o3, z3⟩ := un.there b o2 z2 (nfp z)
  obtain ⟨o4, z4⟩ := G.there b o3 z3 (nofr0 I2 z hb)
  exact ⟨o4, hB (nbC z) z4⟩
 ·obtain ⟨o2, z2⟩ := I2.base.there b o z (noE b)
  obtain ⟨o3, z3⟩ := un.there b o2 z2 (nfp z)
  exact G.free b o3 z3 (un.free b o2 z2 (I2.base.free b o z n (noE b)) (nfp z))
 ·obtain ⟨m1, y1⟩ := I2.base.tbls b ps z
  obtain ⟨m2, y2⟩ := un.tbls b _ y1
  obtain ⟨m3, y3⟩ := G.tbls b _ y2
  exact ⟨m1 ++ m2 ++ m3, by rw [y3]; simp [Array.append_assoc]⟩
 ·have hCn : H' C = none := G.free C oC hoC hC1
  intro b u hu
  refine (G.hok b u hu).stay (fun c v hc z => hB ?_ z) (fun _ z => z) fun _ _ z => z
  rintro rfl
  rcases hc with hc | hc
  ·rw [hc, hu] at hCn; cases hCn
  ·rw [hCn] at hc; cases hc
 ·obtain ⟨_, o', ho', hd⟩ := I2.ok.funs.mem hb
  rw [show (cxOf (CXE P w) P w K mg base N qual sc0 f cd A outer s0 H0 E).s₀.heap.get? b = some o from z] at ho'; cases ho'
  have hbs : b ∈ frs (envOfC qual sc0 s0.heap.objs.size f cd :: outer) := List.mem_cons_of_mem _ hb
  obtain ⟨_, y1⟩ := I2.base.slot b o z (I2.ok.frf b hb) hb (noE b)
  obtain ⟨_, y2⟩ := un.slot b _ y1 (I2.stkFree b hbs) hbs (nfp z)
  obtain ⟨_, y3⟩ := sl b _ y2 hbs
  obtain ⟨_, y4⟩ := up b _ y3 hd
  have y5 := (sb.2 b (nbC z)).trans y4
  obtain ⟨sl6, y6⟩ := up5 b _ y5 hd
  exact ⟨sl6, y6⟩
end
end L2
namespace L2
open PySem PySem.Spec PyProof.Rows
@[reducible] def blkE (X : Cx) (x : Str) (scope : Scope) (C : Addr) (s : Shared) (H : Hp) (fp : List Addr) (E : XK) : Cx :=
 (blk X x [] scope [] C s H fp).wish (fun e s' => ∃ pins' σ' H1 s1, Inv (blk X x [] scope [] C s H fp) pins' σ' H1 s1 ∧ CXE X.prog X.w X.stack H1 s1 E e s')
theorem passB {X : Cx} {x : Str} {scope : Scope} {C : Addr} {s : Shared} {H : Hp} {fp : List Addr} {E : XK} : Passes (CXE X.prog X.w) (blkE X x scope C s H fp E) E := fun pins σ H' s1 _ _ I c => ⟨pins, σ, H', s1, I.unwish, c⟩
section
variable {P : Program} {w : World} {K : PySem.W.Frag} {mg : Str -> Option Value} {base : Heap} {N : List Str} {qual : Str} {sc0 : Scope} {f : Addr} {cd : Value} {A : Around} {outer : List Env} {s0 : Shared} {H0 : Hp} {E : XK}
 {elt iter : Expr} {x : Str} {px : Pos} {scope : Scope} {pos : Pos} {te : TE} {wi : TI}
theorem pe_lcompE (hA : A.handled = none) (B : BlkOk (cxOf (CXE P w) P w K mg base N qual sc0 f cd A outer s0 H0 E) x [] scope []) (hi : PI (cxOf (CXE P w) P w K mg base N qual sc0 f cd A outer s0 H0 E) (.Name x px) iter wi)
  (he : ∀ C s H fp, PE (blkE (cxOf (CXE P w) P w K mg base N qual sc0 f cd A outer s0 H0 E) x scope C s H fp E) elt te)
  (hfree : ∀ y ∈ scope.names, y.2 ≠ .free := by decide +kernel) (hrel : relabel scope (envOfC qual sc0 s0.heap.objs.size f cd) = scope := by rfl)
  (hs : ∀ v, foldedSetIterable iter (envOfC qual sc0 s0.heap.objs.size f cd) v = pure v := by intro _; rfl) :
  PE (cxOf (CXE P w) P w K mg base N qual sc0 f cd A outer s0 H0 E) (.ListComp elt [⟨.Name x px, iter, [], 0⟩] scope pos) (tComp [] wi te) := by
 intro pins s σ H Q I h
 refine wpAny_ListComp hfree B.kind B.names (thn (hi pins s σ H _ I h) fun v s1 h1 => thn h1 fun itv s2 h2 => ?_) hs
 obtain ⟨it, fp, tn, J, H2, e, I2, T, st, hf, rd⟩ := h2
 subst e
 refine wpAny_newObj_type ?_ (by show 0 <= sizeLine; exact Nat.zero_le _)
 have hD : H2 s2.heap.objs.size = none := I2.hok.fresh (Nat.le_refl _)
 have I3 := I2.lnew (ys := []) (its := []) (t' := s2.toks) .nil (Nat.zero_le _)
 generalize hs3 : ({ s2 with heap := s2.heap.push { cls := .type "list", data := .seq ([] : List Value).toArray }, toks := s2.toks } : Shared) = s3 at I3
 have sz3 : s3.heap.objs.size = s2.heap.objs.size + 1 := by rw [← hs3]; exact Heap.size_push ..
 have up3 : ∀ b o, s2.heap.get? b = some o -> s3.heap.get? b = some o := fun b o e => by rw [← hs3]; exact Heap.get?_push_of_some _ e
 have ltf : ∀ b ∈ fp, b < s2.heap.objs.size := fun b hb => by
  obtain ⟨o, e, _⟩ := T.obj 0 _ st b hb
  exact Heap.lt_size e
 have hf3 : ∀ b ∈ fp, FpOk (cxOf (CXE P w) P w K mg base N qual sc0 f cd A outer s0 H0 E) pins (upd H2 s2.heap.objs.size (.lst [])) b := fun b hb => by
  obtain ⟨f0, r⟩ := hf b hb
  exact ⟨by rw [upd_ne (Nat.ne_of_lt (ltf b hb))]; exact f0, r⟩
 have st3 : tn 0 s3.heap := T.keep 0 _ _ st fun b _ o e => up3 b o e
 obtain ⟨W, ⟨m0, w0⟩, turn⟩ := rd _ hD
 refine wpAny_newFunctionEnv B.nocell (by intro y hy; simp at hy) (fun h₁ hns₁ hsb₁ => ?_) B.kind
 have hfC : ∀ b ∈ fp, b ≠ s3.heap.objs.size := fun b hb => Nat.ne_of_lt (by rw [sz3]; exact Nat.lt_succ_of_lt (ltf b hb))
 have up4 : ∀ b o, s3.heap.get? b = some o -> h₁.get? b = some o := fun b o e => hsb₁.extBut b o (Nat.ne_of_lt (Heap.lt_size e)) (Heap.get?_push_of_some _ e)
 generalize hs4 : ({ s3 with heap := h₁, toks := s3.toks + ([] : List (Str × Value)).length } : Shared) = s4
 have h4 : s4.heap = h₁ := by rw [← hs4]
 have I4 : Inv (blk (cxOf (CXE P w) P w K mg base N qual sc0 f cd A outer s0 H0 E) x [] scope [] s3.heap.objs.size s3 (upd H2 s2.heap.objs.size (.lst [])) fp) [] (bst [] σ none) (upd H2 s2.heap.objs.size (.lst [])) s4 :=
  blk_start B I3 hf3 rfl hfC (by rw [← hs4]) (by rw [← hs4]) (fun b o e => by rw [h4]; exact up4 b o e) (by rw [h4]; exact hns₁)
 have st4 : tn 0 s4.heap := by rw [h4]; exact T.keep 0 _ _ st3 fun b _ o e => up4 b o e
 have stat : ∀ {H' : Hp}, (∀ b ∈ fp, H' b = none) -> ∀ b ∈ fp, FpOk (blk (cxOf (CXE P w) P w K mg base N qual sc0 f cd A outer s0 H0 E) x [] scope [] s3.heap.objs.size s3 (upd H2 s2.heap.objs.size (.lst [])) fp) [] H' b := fun {H'} hn b hb => by
  obtain ⟨_, f1, f2, f3, f4, f5⟩ := hf b hb
  refine ⟨hn b hb, hfC b hb, fun z => ?_, .inl hb, fun y c e => f4 y c (B.sub y c e), fun p hp => absurd (show p ∈ ([] : List (Addr × Obj)) from hp) (by simp)⟩
  rcases List.mem_cons.mp (I2.stkSub b z) with q | q
  ·exact f1 q
  ·exact f2 q
 have unO : ∀ {pins' : List (Addr × Obj)} {σ' : St} {H5 : Hp} {s6 : Shared}, Inv (blk (cxOf (CXE P w) P w K mg base N qual sc0 f cd A outer s0 H0 E) x [] scope [] s3.heap.objs.size s3 (upd H2 s2.heap.objs.size (.lst [])) fp) pins' σ' H5 s6 ->
   Un (frs (envOfC qual sc0 s0.heap.objs.size f cd :: outer)) fp H2 H5 s2.heap s6.heap ∧ s6.os = s2.os := fun {pins' σ' H5 s6} I6 => by
  refine ⟨?_, ?_⟩
  ·have u1 : Un (frs (envOfC qual sc0 s0.heap.objs.size f cd :: outer)) fp H2 (upd H2 s2.heap.objs.size (.lst [])) s2.heap s3.heap := Un.laid up3 (Nat.le_refl _) hD
   exact u1.trans I6.base
  ·have := I6.os
   rw [show (blk (cxOf (CXE P w) P w K mg base N qual sc0 f cd A outer s0 H0 E) x [] scope [] s3.heap.objs.size s3 (upd H2 s2.heap.objs.size (.lst [])) fp).s₀.os = s2.os by rw [← hs3]] at this
   exact this
 have hfp0 : ∀ b ∈ fp, s0.heap.objs.size <= b := fun b hb => by
  obtain ⟨_, _, _, f3, _⟩ := hf b hb
  rcases f3 with z | z
  ·exact absurd (show b ∈ ([] : List Addr) from z) (by simp)
  ·exact z
 have key : ∀ env' : Env, env' = compEnvC scope [] s3.heap.objs.size (envOfC qual sc0 s0.heap.objs.size f cd) ->
   codeAny (model P w) (A.deeper (envOfC qual sc0 s0.heap.objs.size f cd)) (.compStart (.ListComp elt [⟨.Name x px, iter, [], 0⟩] scope pos) 0 (.ref it) (.ref s2.heap.objs.size) env') (fun r s' => ∃ m, s'.heap.Ns s3.heap.objs.size m ∧ ∀ h', Heap.SameBut s3.heap.objs.size s'.heap h' ->
    match r with | .ok _ => EP (cxOf (CXE P w) P w K mg base N qual sc0 f cd A outer s0 H0 E) pins σ Q (.ref s2.heap.objs.size) { s' with heap := h' } | .error x => wpAny (model P w) (A.deeper (envOfC qual sc0 s0.heap.objs.size f cd)) (PySem.passOn "comprehension.variables-let-go" x env' : Sem Value) (EP (cxOf (CXE P w) P w K mg base N qual sc0 f cd A outer s0 H0 E) pins σ Q) (cxOf (CXE P w) P w K mg base N qual sc0 f cd A outer s0 H0 E).xe { s' with heap := h' }) s4 := by
  rintro _ rfl
  obtain ⟨RR, hRR⟩ : ∃ RR : Result -> Shared -> Prop, RR = fun r s' => ∃ m, s'.heap.Ns s3.heap.objs.size m ∧ ∀ h', Heap.SameBut s3.heap.objs.size s'.heap h' ->
    match r with | .ok _ => EP (cxOf (CXE P w) P w K mg base N qual sc0 f cd A outer s0 H0 E) pins σ Q (.ref s2.heap.objs.size) { s' with heap := h' } | .error x => wpAny (model P w) (A.deeper (envOfC qual sc0 s0.heap.objs.size f cd)) (PySem.passOn "comprehension.variables-let-go" x (compEnvC scope [] s3.heap.objs.size (envOfC qual sc0 s0.heap.objs.size f cd)) : Sem Value) (EP (cxOf (CXE P w) P w K mg base N qual sc0 f cd A outer s0 H0 E) pins σ Q) (cxOf (CXE P w) P w K mg base N qual sc0 f cd A outer s0 H0 E).xe { s' with heap := h' } := ⟨_, rfl⟩
  rw [← hRR]
  have herr : ∀ (e : Value) (s' : Shared), (blkE (cxOf (CXE P w) P w K mg base N qual sc0 f cd A outer s0 H0 E) x scope s3.heap.objs.size s3 (upd H2 s2.heap.objs.size (.lst [])) fp E).xe e s' ->
    notedBy (model P w) (A.deeper (envOfC qual sc0 s0.heap.objs.size f cd)) (compEnvC scope [] s3.heap.objs.size (envOfC qual sc0 s0.heap.objs.size f cd)) (fun x s' => RR (.error x) s') e s' := fun e s' hx => by
   obtain ⟨pins', σ', H1, s1', I1, c⟩ := hx
   obtain ⟨u1, o1⟩ := unO I1
   obtain ⟨m1, ns1, _⟩ := I1.loc
   refine comp_err (cenv := compEnvC scope [] s3.heap.objs.size (envOfC qual sc0 s0.heap.objs.size f cd)) (RE := fun x s' => RR (.error x) s') I2 (show s2.heap.objs.size <= s3.heap.objs.size by rw [sz3]; exact Nat.le_succ _) u1 hfp0 ns1 I1.free o1 c rfl fun e h3 hh => ?_
   obtain ⟨m, hm, hk⟩ := hh
   rw [hRR]
   exact ⟨m, hm, fun h4 sb => wpAny_mono (hk h4 sb) (fun _ _ z => z.elim) fun _ _ z => z⟩
  have loop : codeAny (model P w) (A.deeper (envOfC qual sc0 s0.heap.objs.size f cd)) (.compLoop (.ListComp elt [⟨.Name x px, iter, [], 0⟩] scope pos) 0 (.ref it) (.ref s2.heap.objs.size) (compEnvC scope [] s3.heap.objs.size (envOfC qual sc0 s0.heap.objs.size f cd))) RR s4 := by
   refine compLoop_err (fun n s' => ∃ i H' o, Inv (blk (cxOf (CXE P w) P w K mg base N qual sc0 f cd A outer s0 H0 E) x [] scope [] s3.heap.objs.size s3 (upd H2 s2.heap.objs.size (.lst [])) fp) [] (bst [] σ o) H' s' ∧ tn i s'.heap ∧ (∀ b ∈ fp, H' b = none) ∧ W i n H') ?_ m0
    ⟨0, _, none, I4, st4, fun b hb => (hf3 b hb).1, w0⟩
   rintro n s5 ⟨i, H5, o5, I5, st5, fr5, w5⟩
   rcases turn i n H5 w5 with ⟨stop, q⟩ | ⟨go, N', hN', step⟩
   ·refine thn (T.done (blk (cxOf (CXE P w) P w K mg base N qual sc0 f cd A outer s0 H0 E) x [] scope [] s3.heap.objs.size s3 (upd H2 s2.heap.objs.size (.lst [])) fp) rfl rfl rfl rfl i [] s5 _ H5 _ I5 (stat fr5) st5 stop) fun r s6 ⟨hr, I6⟩ => ?_
    subst hr
    obtain ⟨m6, hn6, _⟩ := I6.loc
    obtain ⟨un, os6⟩ := unO I6
    have J6 : Inv (cxOf (CXE P w) P w K mg base N qual sc0 f cd A outer s0 H0 E) pins σ H5 s6 := by
     refine I2.call' os6 un I6.hok I6.bare fun b hb => ?_
     obtain ⟨_, f1, f2, f3, f4, f5⟩ := hf b hb
     exact ⟨f3, f1, f4, f5⟩
    have fC : FpOk (cxOf (CXE P w) P w K mg base N qual sc0 f cd A outer s0 H0 E) pins H5 s3.heap.objs.size := I3.fpOk (Nat.le_refl _) I6.free
    show RR (.ok .next) s6
    rw [hRR]
    exact ⟨m6, hn6, fun h' sb => ⟨.ref _, H5, J6.turned (t' := s6.toks) (fun b o hb e => (sb.2 b hb).trans e) fC.1 fC.2.1 fC.2.2.2.1 fC.2.2.2.2.1 fC.2.2.2.2.2, rfl, q⟩⟩
   ·refine thn (T.item (blk (cxOf (CXE P w) P w K mg base N qual sc0 f cd A outer s0 H0 E) x [] scope [] s3.heap.objs.size s3 (upd H2 s2.heap.objs.size (.lst [])) fp) rfl rfl rfl rfl i [] s5 _ H5 _ I5 (stat fr5) st5 go) fun r s6 ⟨u, hr, h6⟩ => ?_
    subst hr
    refine thn h6 fun _ s7 ⟨v, H7, I7, r7, y7, st7, fr7⟩ => ?_
    have I7' := I7.pinned (stat fr7) (T.obj _ _ st7)
    refine blk_store B I7' r7 fun s8 I8 => ?_
    have e8 := he _ _ _ _ _ s8 _ H7 _ (I8.wish _) (step v H7 y7)
    refine wpAny_mono e8 (fun y s9 ⟨yv, H9, I9, r9, ys, hD9, hz, n9⟩ => ?_) herr
    have a9 := mt_append (X := blk (cxOf (CXE P w) P w K mg base N qual sc0 f cd A outer s0 H0 E) x [] scope [] s3.heap.objs.size s3 (upd H2 s2.heap.objs.size (.lst [])) fp) _ s9 _ H9 (.ref s2.heap.objs.size) [yv] (.ref s2.heap.objs.size) [y] (fun _ H10 => H10 = upd H9 s2.heap.objs.size (.lst (ys ++ [yv]))) I9.unwish rfl (.cons r9 .nil)
     ⟨_, ys, yv, rfl, rfl, hD9, hz, rfl⟩
    refine wpAny_mono a9 (fun _ s10 ⟨_, H10, I10, _, e10⟩ => ?_) fun _ _ z => False.elim z
    subst e10
    obtain ⟨m', hm, w9⟩ := hN' _ n9
    refine ⟨m', hm, i + 1, _, some v, I10.unpinned, T.keep _ _ _ st7 fun b hb o e => (I10.pin (b, o) (List.mem_append_right _ (List.mem_append_right _ (mem_pinsAt hb e)))).1, fun b hb => ?_, w9⟩
    obtain ⟨o, e, _⟩ := T.obj _ _ st7 b hb
    exact (I10.pin (b, o) (List.mem_append_right _ (List.mem_append_right _ (mem_pinsAt hb e)))).2.1
  exact codeAny_compStart_list loop (T.self _ 0 _ _ _ st4 loop)
 exact key _ (by unfold compEnvC; rw [hrel]; rfl)
end
end L2
namespace L2
open PySem PySem.Spec PyProof.Rows
section
variable {X : Cx} {k : Nat} {f C : Addr} {fd : FuncData} {ps : List Str} {sp : Sp} {x : Str} {p pos : Pos} {e : Expr} {es : List Expr} {t : TA}
theorem px_make (M : Mk X.K C f) (F : FnOk X.prog X.w X.K X.mg X.base (CXE X.prog X.w) k f fd ps sp) (hr : Room (k + 1) X.A) (hg : Gl X x) (hm : X.mg x = some (.ref C)) (hb : Binds X.K fd ps []) (ha : PA X.nox (e :: es) t)
  (hdb : (x == ("__debug__" : Str)) = false := by decide) (he : starEach (e :: es) X.env = (false, eval e X.env) :: starEach es X.env := by rfl) (hpl : (backTo pos (starEach es X.env)).any (·.1) = false := by rfl) :
  PXE X (.Call (.Name x p) (e :: es) [] pos) (fun E => tMake C sp [] E t) := by
 intro pins s σ H Q E I h
 refine wpAny_Call_Name_kw (ld_glob I hg hm ?_ hdb)
 refine PySem.W.callWith_K (h₀ := X.base) I.ok.mod.kin M.kp (wpAny_mono (ha pos pins s σ H _ (I.wish _) h) (fun us s1 ⟨vs, H1, I1, r, q⟩ => ⟨I1.kIn, ?_⟩) fun _ _ z => False.elim z) he hpl
 have J1 : Inv X pins σ H1 s1 := I1.unwish
 have hq := q (s1.heap.objs.size + 1) s1.heap.objs.size (J1.hok.fresh (Nat.le_succ _)) (J1.hok.fresh (Nat.le_refl _)) (Nat.ne_of_lt (Nat.lt_succ_self _))
 have I2 := Inv.made (C := C) J1
 have r2 : Vals (V.ref (s1.heap.objs.size + 1) :: (vs ++ [])) (Value.ref (s1.heap.objs.size + 1) :: (us ++ [])) := .cons rfl (r.append .nil)
 have hl : (Value.ref (s1.heap.objs.size + 1) :: us ++ []).length = ps.length := (r2.length.symm.trans (F.len _ _ _ _ hq))
 refine wpAny_call (make_map (f := f) J1.kIn M.makes M.init (beq_iff_eq.mp M.fn) (codeAny_mono (F.run _ X.stack _ _ ⟨Value.ref (s1.heap.objs.size + 1) :: us, []⟩ (Value.ref (s1.heap.objs.size + 1) :: (us ++ [])) _ _ E (hr.make C us [])
  (I2.env0.make C us []) (by have z := hb _ (Value.ref (s1.heap.objs.size + 1) :: us) I2.kIn hl; rw [List.cons_append] at z; exact z) r2 hq) fun r s' hq' => ?_))
 cases r with
 | error e => exact ⟨_, _, I2, hq'⟩
 | ok fl =>
  cases fl with
  | ret u =>
   obtain ⟨v, H', I3, rv, ev, q3⟩ := I2.after hq'
   subst ev
   exact ⟨rv, ⟨V.ref (s1.heap.objs.size + 1), H', I3, rfl, q3⟩⟩
  | next => exact False.elim hq'
  | brk => exact False.elim hq'
  | cont => exact False.elim hq'
def rInsert : V -> List V -> Hp -> VK -> Prop := fun x vs H Q => ∃ l xs, ∃ (k : Nat), ∃ y, x = .ref l ∧ vs = [.int (k : Int), y] ∧ H l = some (.lst xs) ∧ k <= xs.length ∧ xs.length <= 900 ∧ Q .non (upd H l (.lst (xs.take k ++ y :: xs.drop k)))
theorem a_insert {x : V} {vs : List V} {H : Hp} {Q : VK} : rInsert x vs H Q = ∃ l xs, ∃ (k : Nat), ∃ y, x = .ref l ∧ vs = [.int (k : Int), y] ∧ H l = some (.lst xs) ∧ k <= xs.length ∧ xs.length <= 900 ∧ Q .non (upd H l (.lst (xs.take k ++ y :: xs.drop k))) := rfl
theorem a_popAt {x : V} {vs : List V} {H : Hp} {Q : VK} : rPopAt x vs H Q = ∃ l xs i k y, x = .ref l ∧ vs = [.int i] ∧ H l = some (.lst xs) ∧ -(2 ^ 63) <= i ∧ i < 2 ^ 63 ∧ seqIndex? i xs.length = some k ∧ xs[k]? = some y ∧ Q y (upd H l (.lst (xs.eraseIdx k))) := rfl
theorem mt_insert : MtM X "list.insert" rInsert := by
 intro pins s σ H x vs v us Q I rx rv h
 obtain ⟨l, xs, k, y, rfl, rfl, hH, hk, hz, q⟩ := h
 cases rx
 cases rv with
 | cons r1 rr =>
  cases rr with
  | cons r2 rr =>
   cases rr
   rename_i u1 u2
   obtain ⟨t, rfl⟩ := r1
   obtain ⟨z, its, n, r, hl, e⟩ := I.lstM hH
   obtain ⟨j, hj⟩ : ∃ j : Int, (k : Int) = j := ⟨_, rfl⟩
   rw [hj]
   have fit : Builtin.List.listFitsIndex j = true := fitsIndex_both (by omega) (by omega)
   have nf : ¬ (!Builtin.List.listFitsIndex j) = true := by rw [fit]; exact Bool.false_ne_true
   have hsz : its.toArray.size <= sizeLine := by rw [List.size_toArray]; omega
   refine call_meets F.slot_list_insert ⟨_, e, rfl⟩ F.entry_list_insert (F.args_list_insert_3 _ _ _) (AutoSeq1.list_insert_list_int_val_1 l its.toArray n j t u2 nf hsz) ⟨e, ?_⟩
   have hv : Vals (xs.take k ++ y :: xs.drop k) (its.take k ++ u2 :: its.drop k) := (r.take k).append (.cons r2 (r.drop k))
   have hz2 : (xs.take k ++ y :: xs.drop k).length <= sizeLine := by
    rw [List.length_append, List.length_cons, List.length_take, List.length_drop]
    exact Nat.le_of_lt (small1000 (by omega))
   refine ⟨.non, _, I.lset hH e ?_ hv hz2, rfl, q⟩
   have e0 : (if j < 0 then (j + ((its.toArray.size : Nat) : Int)).toNat else min j.toNat its.toArray.size) = k := by
    rw [if_neg (by omega), ← hj, Int.toNat_natCast, List.size_toArray, ← hl, Nat.min_eq_left hk]
   show (its.toArray.extract 0 (if j < 0 then (j + ((its.toArray.size : Nat) : Int)).toNat else min j.toNat its.toArray.size)).push u2 ++ its.toArray.extract (if j < 0 then (j + ((its.toArray.size : Nat) : Int)).toNat else min j.toNat its.toArray.size) = _
   rw [e0]
   simp only [List.extract_toArray, List.extract_eq_take_drop, List.push_toArray, List.append_toArray, List.size_toArray, List.drop_zero, Nat.sub_zero]
   rw [List.take_of_length_le (l := its.drop k) (by rw [List.length_drop]; exact Nat.le_refl _), List.append_assoc]
   rfl
end
end L2
namespace L2
open PySem PySem.Spec PyProof.Rows
def tFst2 (x y : Str) (te : TE) : TE := fun σ H Q => (Str.empty ++ x).length <= sizeLine ∧ te σ H fun v H1 => ∃ i, v = .int i ∧ i.natAbs.log2 < 1920 ∧ (Str.empty ++ x ++ Str.ofString (toString i)).length <= sizeLine ∧ (Str.empty ++ x ++ Str.ofString (toString i) ++ y).length <= sizeLine ∧ Q (.str (Str.empty ++ x ++ Str.ofString (toString i) ++ y)) H1
theorem a_fst2 {x y : Str} {te : TE} {σ : St} {H : Hp} {Q : VK} : tFst2 x y te σ H Q = ((Str.empty ++ x).length <= sizeLine ∧ te σ H fun v H1 => ∃ i, v = .int i ∧ i.natAbs.log2 < 1920 ∧ (Str.empty ++ x ++ Str.ofString (toString i)).length <= sizeLine ∧ (Str.empty ++ x ++ Str.ofString (toString i) ++ y).length <= sizeLine ∧ Q (.str (Str.empty ++ x ++ Str.ofString (toString i) ++ y)) H1) := rfl
theorem pe_fst2 {X : Cx} {x y : Str} {j j2 : Nat} {e : Expr} {te : TE} {p1 p2 p3 p4 : Pos} (he : PE X e te) (hev : evalEach [.Constant (.str x) j p1, .FormattedValue e (-1) none p2, .Constant (.str y) j2 p4] X.env = [eval (.Constant (.str x) j p1) X.env, eval (.FormattedValue e (-1) none p2) X.env, eval (.Constant (.str y) j2 p4) X.env] := by rfl) :
  PE X (.JoinedStr [.Constant (.str x) j p1, .FormattedValue e (-1) none p2, .Constant (.str y) j2 p4] p3) (tFst2 x y te) := by
 intro pins s σ H Q I h
 refine wpAny_JoinedStr ?_
 rw [hev]
 refine Calls.Constant_str ⟨x, _, rfl, ?_⟩
 obtain ⟨l1, hx⟩ : _ ∧ _ := h
 have h2 := he pins { s with toks := s.toks + 1 } σ H _ (I.tok _) hx
 refine ⟨l1, ?_⟩
 refine wpAny_FormattedValue_plain (wpAny_mono h2 (fun v s₁ z => ?_) fun _ _ y => y)
 obtain ⟨v', H1, I1, rv, i, rfl, hd, l2, l3, q⟩ := z
 obtain ⟨t, rfl⟩ := rv
 refine wpAny_formatField_int hd ⟨_, _, rfl, l2, ?_⟩
 refine Calls.Constant_str ⟨y, _, rfl, l3, l3, .str _, H1, ((I1.tok _).tok _).tok _, ⟨_, rfl⟩, q⟩
end L2
namespace My
def co (xs : List Int) (k : Nat) : Int := xs.getD k 0
end My
namespace My
def sumN : Nat -> (Nat -> Int) -> Int
 | 0, _ => 0
 | n + 1, f => sumN n f + f n
end My
namespace My
def val (n : Int) : List Int -> Int
 | [] => 0
 | c :: r => c + n * val n r
def hd (xs : List Int) : Int := xs.headD 0
end My
namespace My
end My
namespace My
end My
namespace My
theorem gcd_split {t b s : Int} (hb : b ≠ 0) (hs : s = if b < 0 then -((Nat.gcd t.natAbs b.natAbs : Nat) : Int) else ((Nat.gcd t.natAbs b.natAbs : Nat) : Int)) :
  s ≠ 0 ∧ s.natAbs = Nat.gcd t.natAbs b.natAbs ∧ t = s * t.fdiv s ∧ b = s * b.fdiv s ∧ 1 <= b.fdiv s ∧ Nat.gcd (t.fdiv s).natAbs (b.fdiv s).natAbs = 1 := by
 have gp : 0 < Nat.gcd t.natAbs b.natAbs := Nat.gcd_pos_of_pos_right _ (by omega)
 have sa : s.natAbs = Nat.gcd t.natAbs b.natAbs := by
  rw [hs]; split
  ·rw [Int.natAbs_neg, Int.natAbs_natCast]
  ·rw [Int.natAbs_natCast]
 have s0 : s ≠ 0 := by intro z; rw [z] at sa; simp at sa; omega
 have dt : s ∣ t := Int.natAbs_dvd_natAbs.mp (by rw [sa]; exact Nat.gcd_dvd_left _ _)
 have db : s ∣ b := Int.natAbs_dvd_natAbs.mp (by rw [sa]; exact Nat.gcd_dvd_right _ _)
 obtain ⟨c, hc⟩ := dt
 obtain ⟨d, hd⟩ := db
 have ec : t.fdiv s = c := by rw [hc]; exact Int.mul_fdiv_cancel_left c s0
 have ed : b.fdiv s = d := by rw [hd]; exact Int.mul_fdiv_cancel_left d s0
 rw [ec, ed]
 refine ⟨s0, sa, hc, hd, ?_, ?_⟩
 ·by_cases hn : b < 0
  ·rw [if_pos hn] at hs
   have : s < 0 := by omega
   rcases Int.lt_or_le 0 d with h | h
   ·omega
   ·have := Int.mul_nonneg_of_nonpos_of_nonpos (Int.le_of_lt this) h
    omega
  ·rw [if_neg hn] at hs
   have : 0 < s := by omega
   rcases Int.lt_or_le 0 d with h | h
   ·omega
   ·have := Int.mul_nonpos_of_nonneg_of_nonpos (Int.le_of_lt this) h
    omega
 ·have e1 : t.natAbs = s.natAbs * c.natAbs := by rw [← Int.natAbs_mul, ← hc]
  have e2 : b.natAbs = s.natAbs * d.natAbs := by rw [← Int.natAbs_mul, ← hd]
  have e3 := sa
  rw [e1, e2, Nat.gcd_mul_left] at e3
  have sp : 0 < s.natAbs := by omega
  exact Nat.eq_of_mul_eq_mul_left sp (by omega)
theorem fdiv_le {t s : Int} (s0 : s ≠ 0) (h : t = s * t.fdiv s) : (t.fdiv s).natAbs <= t.natAbs := by
 have e : t.natAbs = s.natAbs * (t.fdiv s).natAbs := by rw [← Int.natAbs_mul, ← h]
 rw [e]
 exact Nat.le_mul_of_pos_left _ (by omega)
end My
namespace My
def pm (f g : Nat -> Int) (k : Nat) : Int := sumN (k + 1) fun j => f j * g (k - j)
end My
namespace My
end My
namespace My
end My
namespace My
def sh (g : Nat -> Int) (j : Nat) : Int := if j = 0 then 0 else g (j - 1)
def ev (p : Int) (f : Nat -> Int) : Nat -> Nat -> Int
 | 0, _ => 0
 | n + 1, s => f s + p * ev p f n (s + 1)
theorem ev_lin (p a b : Int) (f g : Nat -> Int) : ∀ n s, ev p (fun j => a * f j - b * g j) n s = a * ev p f n s - b * ev p g n s
 | 0, _ => by simp [ev]
 | n + 1, s => by
  simp only [ev]
  rw [ev_lin p a b f g n (s + 1), Int.mul_sub, Int.mul_add, Int.mul_add, ← Int.mul_assoc p a, ← Int.mul_assoc p b, Int.mul_comm p a, Int.mul_comm p b, Int.mul_assoc, Int.mul_assoc]
  omega
theorem down (p : Int) {K Z : Nat -> Int} {e : Nat} (hK : ∀ j, e + 1 <= j -> K j = 0) (hZ : ∀ j, e <= j -> Z j = 0) :
  ∃ Z' : Nat -> Int, (∀ j, e <= j -> Z' j = 0) ∧ ∀ j, p * Z' j - sh Z' j = ev p K (e + 1) 0 * Z j - ev p Z (e + 1) 0 * K j := by
 let k0 := ev p K (e + 1) 0
 let z0 := ev p Z (e + 1) 0
 let F : Nat -> Int := fun j => k0 * Z j - z0 * K j
 let v : Nat -> Int := fun j => ev p F (e + 1 - j) j
 have hF : ∀ j, e + 1 <= j -> F j = 0 := fun j hj => by show k0 * Z j - z0 * K j = 0; rw [hZ j (by omega), hK j hj]; simp
 have hv : ∀ j, v j = F j + p * v (j + 1) := fun j => by
  show ev p F (e + 1 - j) j = F j + p * ev p F (e + 1 - (j + 1)) (j + 1)
  by_cases h : j <= e
  ·rw [show e + 1 - j = (e - j) + 1 by omega, show e + 1 - (j + 1) = e - j by omega]; rfl
  ·rw [show e + 1 - j = 0 by omega, show e + 1 - (j + 1) = 0 by omega, hF j (by omega)]; simp [ev]
 have h0 : v 0 = 0 := by
  show ev p (fun j => k0 * Z j - z0 * K j) (e + 1) 0 = 0
  rw [ev_lin]
  show k0 * z0 - z0 * k0 = 0
  rw [Int.mul_comm]; omega
 refine ⟨fun j => - v (j + 1), fun j hj => ?_, fun j => ?_⟩
 ·show - ev p F (e + 1 - (j + 1)) (j + 1) = 0
  rw [show e + 1 - (j + 1) = 0 by omega]; rfl
 ·show p * (- v (j + 1)) - sh (fun j => - v (j + 1)) j = F j
  have a := hv j
  unfold sh
  by_cases h : j = 0
  ·subst h
   rw [if_pos rfl]
   rw [h0] at a
   rw [Int.mul_neg]; omega
  ·rw [if_neg h]
   show p * (- v (j + 1)) - (- v (j - 1 + 1)) = F j
   rw [show j - 1 + 1 = j by omega, Int.mul_neg]; omega
section
variable {p : Int} {K L : Nat -> Int} {e t M : Nat} (he : 1 <= e) (hK : ∀ j, e + 1 <= j -> K j = 0) (kt : K e ≠ 0) (hL : ∀ j, t + 1 <= j -> L j = 0) (lt : L t ≠ 0) (hM : ∀ j, (pm L K j).natAbs <= M) (hp : (ev p K (e + 1) 0).natAbs + M + 1 < p.natAbs)
include he hK kt hL lt hM hp
end
end My
namespace My
end My
namespace My
end My
namespace My
end My
namespace My
end My
namespace My
end My
namespace My
open L2
end My
namespace My
open L2
end My
namespace My
open L2
end My
namespace My
open L2
def pl (b : Bool) (p : P2) : Int := if b then p.2 else p.1
end My
namespace My
open PySem PySem.Spec PyProof.Rows L2
seal L2.PE L2.PS L2.PSs L2.PA
local macro_rules | `(tactic| k_units) => `(tactic| ((try dsimp only [a_insert, a_popAt, a_fst2, a_fld, a_sfld, a_meth, a_make, a_maxD, a_inS, a_ipC, a_izip, a_tComp2, a_izip3, a_tComp3, a_make0, a_eqS, a_tryAs, a_drop_nx, a_raise, a_try, a_fst, a_compIf, a_seq, a_next, a_brk, a_cnt, a_drop, a_ret, a_retN, a_if, a_asg, a_gname, a_gsub, a_gtup, a_gnil, a_gcons, a_aug, a_augS, a_ipI, a_var, a_c, a_op, a_un, a_rI, a_rI0, a_rU, a_eqI, a_neI, a_eqB, a_neB, a_tB, a_test, a_and, a_or, a_not, a_andV, a_orV, a_notV, a_ifE, a_chain, a_nil, a_cons, a_lst, a_tup, a_call, a_cb, a_bm0, a_bm, a_sl, a_nopart, a_part, a_tyI, a_for, a_comp, a_ilist, a_itup, a_irng1, a_irng2, a_irng3, a_cxK, a_irev, a_ienum, a_cat, a_rep, a_pop, a_clear, a_rslL, a_ixL, a_ixT, a_setL, a_app]); (try simp only [a_insert, a_popAt, a_fst2, a_fld, a_sfld, a_meth, a_make, a_maxD, a_inS, a_ipC, a_izip, a_tComp2, a_izip3, a_tComp3, a_make0, a_eqS, V.str.injEq, a_tryAs, a_drop_nx, a_raise, a_try, a_fst, a_compIf, a_seq, a_next, a_brk, a_cnt, a_drop, a_ret, a_retN, a_if, a_asg, a_gname, a_gsub, a_gtup, a_gnil, a_gcons, a_aug, a_augS, a_ipI, a_var, a_c, a_op, a_un, a_rI, a_rI0, a_rU, a_eqI, a_neI, a_eqB, a_neB, a_tB, a_test, a_and, a_or, a_not, a_andV, a_orV, a_notV, a_ifE, a_chain, a_nil, a_cons, a_lst, a_tup, a_call, a_cb, a_bm0, a_bm, a_sl, a_nopart, a_part, a_tyI, a_for, a_comp, a_ilist, a_itup, a_irng1, a_irng2, a_irng3, a_cxK, and_assoc, a_irev, a_ienum, a_cat, a_rep, a_pop, a_clear, a_rslL, a_ixL, a_ixT, a_setL, a_app, List.getElem?_cons_zero, List.getElem?_cons_succ, List.set_cons_zero, List.set_cons_succ, Option.some.injEq, V.int.injEq, V.bl.injEq, V.ref.injEq, V.ty.injEq, exists_eq_left', exists_eq_left, exists_and_left, decide_eq_true_eq, List.cons_append, List.nil_append, List.append_nil, List.cons.injEq, and_true, true_and, Bool.not_eq_true', decide_eq_false_iff_not, ite_true, ite_false, Bool.false_eq_true, if_true, if_false, List.length_cons, List.length_nil, L2.start, List.map_cons, List.map_nil, List.replicate_succ, List.replicate_zero])))
local macro_rules | `(tactic| k_typeOf) => `(tactic| ((try dsimp only [a_insert, a_popAt, a_fst2, a_fld, a_sfld, a_meth, a_make, a_maxD, a_inS, a_ipC, a_izip, a_tComp2, a_izip3, a_tComp3, a_make0, a_eqS, a_tryAs, a_drop_nx, a_raise, a_try, a_fst, a_compIf, a_next, a_brk, a_cnt, a_drop, a_ret, a_retN, a_if, a_asg, a_gname, a_gsub, a_gtup, a_gnil, a_gcons, a_aug, a_augS, a_ipI, a_var, a_c, a_op, a_un, a_rI, a_rI0, a_rU, a_eqI, a_neI, a_eqB, a_neB, a_tB, a_test, a_and, a_or, a_not, a_andV, a_orV, a_notV, a_ifE, a_chain, a_nil, a_cons, a_lst, a_tup, a_call, a_cb, a_bm0, a_bm, a_sl, a_nopart, a_part, a_tyI, a_for, a_comp, a_ilist, a_itup, a_irng1, a_irng2, a_irng3, a_cxK, a_irev, a_ienum, a_cat, a_rep, a_pop, a_clear, a_rslL, a_ixL, a_ixT, a_setL, a_app]); (try simp only [a_insert, a_popAt, a_fst2, a_fld, a_sfld, a_meth, a_make, a_maxD, a_inS, a_ipC, a_izip, a_tComp2, a_izip3, a_tComp3, a_make0, a_eqS, V.str.injEq, a_tryAs, a_drop_nx, a_raise, a_try, a_fst, a_compIf, a_next, a_brk, a_cnt, a_drop, a_ret, a_retN, a_if, a_asg, a_gname, a_gsub, a_gtup, a_gnil, a_gcons, a_aug, a_augS, a_ipI, a_var, a_c, a_op, a_un, a_rI, a_rI0, a_rU, a_eqI, a_neI, a_eqB, a_neB, a_tB, a_test, a_and, a_or, a_not, a_andV, a_orV, a_notV, a_ifE, a_chain, a_nil, a_cons, a_lst, a_tup, a_call, a_cb, a_bm0, a_bm, a_sl, a_nopart, a_part, a_tyI, a_for, a_comp, a_ilist, a_itup, a_irng1, a_irng2, a_irng3, a_cxK, and_assoc, a_irev, a_ienum, a_cat, a_rep, a_pop, a_clear, a_rslL, a_ixL, a_ixT, a_setL, a_app, List.getElem?_cons_zero, List.getElem?_cons_succ, List.set_cons_zero, List.set_cons_succ, Option.some.injEq, V.int.injEq, V.bl.injEq, V.ref.injEq, V.ty.injEq, exists_eq_left', exists_eq_left, exists_and_left, decide_eq_true_eq, List.cons_append, List.nil_append, List.append_nil, List.cons.injEq, and_true, true_and, Bool.not_eq_true', decide_eq_false_iff_not, ite_true, ite_false, Bool.false_eq_true, if_true, if_false, List.length_cons, List.length_nil, L2.start, List.map_cons, List.map_nil, List.replicate_succ, List.replicate_zero])))
local macro_rules | `(tactic| w_on) => `(tactic| exact ⟨rfl, rfl, rfl, by decide +kernel, rfl, by decide +kernel, by decide +kernel⟩)
theorem sc_low_forms : FnScope ["upper", "lower"] ["upper", "lower"] (defScope s_low_forms) := by w_on
theorem sc_within : FnScope ["form", "least"] ["form", "least"] (defScope s_within) := by w_on
theorem sc_check_choose : FnScope ["upper", "lower", "low"] ["upper", "lower"] (defScope s_check_choose) := by w_on
theorem sc_check_base : FnScope ["fraction"] ["fraction"] (defScope s_check_base) := by w_on
theorem sc_piece_of : FnScope ["part"] ["part"] (defScope s_piece_of) := by w_on
theorem sc__law_cell_at : FnScope ["_law_script", "_law_k"] ["_law_script", "_law_k"] (defScope s__law_cell_at) := by w_on
theorem sc__law_number : FnScope ["_law_cell", "_law_most"] ["_law_cell", "_law_most"] (defScope s__law_number) := by w_on
theorem sc__law_divisor : FnScope ["_law_one", "_law_other", "_law_rest"] ["_law_one", "_law_other"] (defScope s__law_divisor) := by w_on
theorem sc__law_mixed : FnScope ["_law_cell", "_law_k", "_law_number_here", "_law_time"] ["_law_cell", "_law_k"] (defScope s__law_mixed) := by w_on
theorem sc__law_forms : FnScope ["_law_one", "_law_other", "_law_most", "_law_high", "_law_low"] ["_law_one", "_law_other", "_law_most"] (defScope s__law_forms) := by w_on
theorem sc__law_ratio : FnScope ["_law_one", "_law_other", "_law_top", "_law_number_here", "_law_bottom", "_law_by"] ["_law_one", "_law_other"] (defScope s__law_ratio) := by w_on
theorem sc__law_part : FnScope ["_law_cells", "_law_most", "_law_way"] ["_law_cells", "_law_most"] (defScope s__law_part) := by w_on
theorem sc__law_parts : FnScope ["_law_script", "_law_mosts", "_law_found", "_law_k", "_law_part_here"] ["_law_script", "_law_mosts"] (defScope s__law_parts) := by w_on
theorem sc__law_is : FnScope ["_law_caught", "_law_at", "_law_told"] ["_law_caught", "_law_at"] (defScope s__law_is) := by w_on
theorem sc__law_beyond : FnScope ["_law_number_here", "_law_cell", "_law_more", "_law_forms_here", "_law_at", "_law_least", "_law_most"] ["_law_number_here", "_law_cell"] (defScope s__law_beyond) := by w_on
theorem sc__law_fallen : FnScope ["_law_number_here", "_law_low", "_law_high"] ["_law_number_here"] (defScope s__law_fallen) := by w_on
theorem sc__law_no_part : FnScope ["_law_cell", "_law_number_here", "_law_way", "_law_words"] ["_law_cell"] (defScope s__law_no_part) := by w_on
theorem sc__law_refused : FnScope ["_law_parts_here", "_law_caught", "e"] ["_law_parts_here"] (defScope s__law_refused) := by w_on
theorem sc__law_spoiled : FnScope ["_law_handed", "_law_parts_here", "_law_cell", "_law_number_here", "_law_at", "_law_due"] ["_law_handed", "_law_parts_here", "_law_cell"] (defScope s__law_spoiled) := by w_on
theorem sc_law : FnScope ["_law_script", "_law_parts_here", "_law_handed", "_law_cell", "_law_many"] ["_law_script"] (defScope s_law) := by w_on
theorem sc_Choose___init__ : FnScope ["self", "upper", "lower"] ["self", "upper", "lower"] (defScope s_Choose___init__) := by w_on
theorem sc_Weight___init__ : FnScope ["self", "form"] ["self", "form"] (defScope s_Weight___init__) := by w_on
theorem sc_Power___init__ : FnScope ["self", "fraction"] ["self", "fraction"] (defScope s_Power___init__) := by w_on
theorem sc_Growth___init__ : FnScope ["self", "fraction"] ["self", "fraction"] (defScope s_Growth___init__) := by w_on
theorem sc_Term___init__ : FnScope ["self", "parts"] ["self", "parts"] (defScope s_Term___init__) := by w_on
theorem sc_Term_told : FnScope ["self"] ["self"] (defScope s_Term_told) := by w_on
set_option genInjectivity false in
set_option genSizeOf false in
structure Tx (K : PySem.W.Frag) (mg : Str -> Option Value) where
 a_low_forms : Addr
 fd_low_forms : FuncData
 F_low_forms : Fun K "low_forms" "low_forms" s_low_forms a_low_forms fd_low_forms
 m_low_forms : mg "low_forms" = some (.ref a_low_forms)
 b_low_forms : Binds K fd_low_forms ["upper", "lower"] []
 a_within : Addr
 fd_within : FuncData
 F_within : Fun K "within" "within" s_within a_within fd_within
 m_within : mg "within" = some (.ref a_within)
 b_within : Binds K fd_within ["form", "least"] []
 a_check_choose : Addr
 fd_check_choose : FuncData
 F_check_choose : Fun K "check_choose" "check_choose" s_check_choose a_check_choose fd_check_choose
 m_check_choose : mg "check_choose" = some (.ref a_check_choose)
 b_check_choose : Binds K fd_check_choose ["upper", "lower"] []
 a_check_base : Addr
 fd_check_base : FuncData
 F_check_base : Fun K "check_base" "check_base" s_check_base a_check_base fd_check_base
 m_check_base : mg "check_base" = some (.ref a_check_base)
 b_check_base : Binds K fd_check_base ["fraction"] []
 a_piece_of : Addr
 fd_piece_of : FuncData
 F_piece_of : Fun K "piece_of" "piece_of" s_piece_of a_piece_of fd_piece_of
 m_piece_of : mg "piece_of" = some (.ref a_piece_of)
 b_piece_of : Binds K fd_piece_of ["part"] []
 a__law_cell_at : Addr
 fd__law_cell_at : FuncData
 F__law_cell_at : Fun K "_law_cell_at" "_law_cell_at" s__law_cell_at a__law_cell_at fd__law_cell_at
 m__law_cell_at : mg "_law_cell_at" = some (.ref a__law_cell_at)
 b__law_cell_at : Binds K fd__law_cell_at ["_law_script", "_law_k"] []
 a__law_number : Addr
 fd__law_number : FuncData
 F__law_number : Fun K "_law_number" "_law_number" s__law_number a__law_number fd__law_number
 m__law_number : mg "_law_number" = some (.ref a__law_number)
 b__law_number : Binds K fd__law_number ["_law_cell", "_law_most"] []
 a__law_divisor : Addr
 fd__law_divisor : FuncData
 F__law_divisor : Fun K "_law_divisor" "_law_divisor" s__law_divisor a__law_divisor fd__law_divisor
 m__law_divisor : mg "_law_divisor" = some (.ref a__law_divisor)
 b__law_divisor : Binds K fd__law_divisor ["_law_one", "_law_other"] []
 a__law_mixed : Addr
 fd__law_mixed : FuncData
 F__law_mixed : Fun K "_law_mixed" "_law_mixed" s__law_mixed a__law_mixed fd__law_mixed
 m__law_mixed : mg "_law_mixed" = some (.ref a__law_mixed)
 b__law_mixed : Binds K fd__law_mixed ["_law_cell", "_law_k"] []
 a__law_forms : Addr
 fd__law_forms : FuncData
 F__law_forms : Fun K "_law_forms" "_law_forms" s__law_forms a__law_forms fd__law_forms
 m__law_forms : mg "_law_forms" = some (.ref a__law_forms)
 b__law_forms : Binds K fd__law_forms ["_law_one", "_law_other", "_law_most"] []
 a__law_ratio : Addr
 fd__law_ratio : FuncData
 F__law_ratio : Fun K "_law_ratio" "_law_ratio" s__law_ratio a__law_ratio fd__law_ratio
 m__law_ratio : mg "_law_ratio" = some (.ref a__law_ratio)
 b__law_ratio : Binds K fd__law_ratio ["_law_one", "_law_other"] []
 a__law_part : Addr
 fd__law_part : FuncData
 F__law_part : Fun K "_law_part" "_law_part" s__law_part a__law_part fd__law_part
 m__law_part : mg "_law_part" = some (.ref a__law_part)
 b__law_part : Binds K fd__law_part ["_law_cells", "_law_most"] []
 a__law_parts : Addr
 fd__law_parts : FuncData
 F__law_parts : Fun K "_law_parts" "_law_parts" s__law_parts a__law_parts fd__law_parts
 m__law_parts : mg "_law_parts" = some (.ref a__law_parts)
 b__law_parts : Binds K fd__law_parts ["_law_script", "_law_mosts"] []
 a__law_is : Addr
 fd__law_is : FuncData
 F__law_is : Fun K "_law_is" "_law_is" s__law_is a__law_is fd__law_is
 m__law_is : mg "_law_is" = some (.ref a__law_is)
 b__law_is : Binds K fd__law_is ["_law_caught", "_law_at"] []
 a__law_beyond : Addr
 fd__law_beyond : FuncData
 F__law_beyond : Fun K "_law_beyond" "_law_beyond" s__law_beyond a__law_beyond fd__law_beyond
 m__law_beyond : mg "_law_beyond" = some (.ref a__law_beyond)
 b__law_beyond : Binds K fd__law_beyond ["_law_number_here", "_law_cell"] []
 a__law_fallen : Addr
 fd__law_fallen : FuncData
 F__law_fallen : Fun K "_law_fallen" "_law_fallen" s__law_fallen a__law_fallen fd__law_fallen
 m__law_fallen : mg "_law_fallen" = some (.ref a__law_fallen)
 b__law_fallen : Binds K fd__law_fallen ["_law_number_here"] []
 a__law_no_part : Addr
 fd__law_no_part : FuncData
 F__law_no_part : Fun K "_law_no_part" "_law_no_part" s__law_no_part a__law_no_part fd__law_no_part
 m__law_no_part : mg "_law_no_part" = some (.ref a__law_no_part)
 b__law_no_part : Binds K fd__law_no_part ["_law_cell"] []
 a__law_refused : Addr
 fd__law_refused : FuncData
 F__law_refused : Fun K "_law_refused" "_law_refused" s__law_refused a__law_refused fd__law_refused
 m__law_refused : mg "_law_refused" = some (.ref a__law_refused)
 b__law_refused : Binds K fd__law_refused ["_law_parts_here"] []
 a__law_spoiled : Addr
 fd__law_spoiled : FuncData
 F__law_spoiled : Fun K "_law_spoiled" "_law_spoiled" s__law_spoiled a__law_spoiled fd__law_spoiled
 m__law_spoiled : mg "_law_spoiled" = some (.ref a__law_spoiled)
 b__law_spoiled : Binds K fd__law_spoiled ["_law_handed", "_law_parts_here", "_law_cell"] []
 a_law : Addr
 fd_law : FuncData
 F_law : Fun K "law" "law" s_law a_law fd_law
 m_law : mg "law" = some (.ref a_law)
 b_law : Binds K fd_law ["_law_script"] []
 a_Choose___init__ : Addr
 fd_Choose___init__ : FuncData
 F_Choose___init__ : Fun K "__init__" "Choose.__init__" s_Choose___init__ a_Choose___init__ fd_Choose___init__
 b_Choose___init__ : Binds K fd_Choose___init__ ["self", "upper", "lower"] []
 a_Weight___init__ : Addr
 fd_Weight___init__ : FuncData
 F_Weight___init__ : Fun K "__init__" "Weight.__init__" s_Weight___init__ a_Weight___init__ fd_Weight___init__
 b_Weight___init__ : Binds K fd_Weight___init__ ["self", "form"] []
 a_Power___init__ : Addr
 fd_Power___init__ : FuncData
 F_Power___init__ : Fun K "__init__" "Power.__init__" s_Power___init__ a_Power___init__ fd_Power___init__
 b_Power___init__ : Binds K fd_Power___init__ ["self", "fraction"] []
 a_Growth___init__ : Addr
 fd_Growth___init__ : FuncData
 F_Growth___init__ : Fun K "__init__" "Growth.__init__" s_Growth___init__ a_Growth___init__ fd_Growth___init__
 b_Growth___init__ : Binds K fd_Growth___init__ ["self", "fraction"] []
 a_Term___init__ : Addr
 fd_Term___init__ : FuncData
 F_Term___init__ : Fun K "__init__" "Term.__init__" s_Term___init__ a_Term___init__ fd_Term___init__
 b_Term___init__ : Binds K fd_Term___init__ ["self", "parts"] []
 a_Term_told : Addr
 fd_Term_told : FuncData
 F_Term_told : Fun K "told" "Term.told" s_Term_told a_Term_told fd_Term_told
 b_Term_told : Binds K fd_Term_told ["self"] []
 c_NoTerm : Addr
 mc_NoTerm : mg "NoTerm" = some (.ref c_NoTerm)
 xc_NoTerm : PySem.W.excIn K c_NoTerm bmV "ValueError.__new__" = true
 c_SumError : Addr
 mc_SumError : mg "SumError" = some (.ref c_SumError)
 c_TooFew : Addr
 mc_TooFew : mg "TooFew" = some (.ref c_TooFew)
 c_NotKept : Addr
 mc_NotKept : mg "NotKept" = some (.ref c_NotKept)
 c_NoEnds : Addr
 mc_NoEnds : mg "NoEnds" = some (.ref c_NoEnds)
 c_NoLine : Addr
 mc_NoLine : mg "NoLine" = some (.ref c_NoLine)
 c_NoName : Addr
 mc_NoName : mg "NoName" = some (.ref c_NoName)
 c_NoRule : Addr
 mc_NoRule : mg "NoRule" = some (.ref c_NoRule)
 c_TooGreat : Addr
 mc_TooGreat : mg "TooGreat" = some (.ref c_TooGreat)
 c_NoNumber : Addr
 mc_NoNumber : mg "NoNumber" = some (.ref c_NoNumber)
 c_NoPlace : Addr
 mc_NoPlace : mg "NoPlace" = some (.ref c_NoPlace)
 c_Choose : Addr
 mc_Choose : mg "Choose" = some (.ref c_Choose)
 cl_Choose : Cls K c_Choose
 mk_Choose : Mk K c_Choose a_Choose___init__
 na_Choose_above : NoAttr K c_Choose "above"
 na_Choose_lows : NoAttr K c_Choose "lows"
 c_Growth : Addr
 mc_Growth : mg "Growth" = some (.ref c_Growth)
 cl_Growth : Cls K c_Growth
 mk_Growth : Mk K c_Growth a_Growth___init__
 na_Growth_fraction : NoAttr K c_Growth "fraction"
 c_Part : Addr
 mc_Part : mg "Part" = some (.ref c_Part)
 cl_Part : Cls K c_Part
 c_Power : Addr
 mc_Power : mg "Power" = some (.ref c_Power)
 cl_Power : Cls K c_Power
 mk_Power : Mk K c_Power a_Power___init__
 na_Power_fraction : NoAttr K c_Power "fraction"
 c_Term : Addr
 mc_Term : mg "Term" = some (.ref c_Term)
 cl_Term : Cls K c_Term
 mk_Term : Mk K c_Term a_Term___init__
 me_Term_told : Meth K c_Term "told" a_Term_told
 na_Term_parts : NoAttr K c_Term "parts"
 na_Term_pieces : NoAttr K c_Term "pieces"
 c_Weight : Addr
 mc_Weight : mg "Weight" = some (.ref c_Weight)
 cl_Weight : Cls K c_Weight
 mk_Weight : Mk K c_Weight a_Weight___init__
 na_Weight_form : NoAttr K c_Weight "form"
 kc_NoTerm_SumError : Catches K c_NoTerm c_SumError
 ec_NoTerm : ExCls K c_NoTerm
 ki_NoTerm_NoRule : PySem.W.kitOne K (.ref c_NoTerm) (.ref c_NoRule) = some false
 ki_NoTerm_TooGreat : PySem.W.kitOne K (.ref c_NoTerm) (.ref c_TooGreat) = some false
 ki_NoTerm_TooFew : PySem.W.kitOne K (.ref c_NoTerm) (.ref c_TooFew) = some false
 ki_NoTerm_NotKept : PySem.W.kitOne K (.ref c_NoTerm) (.ref c_NotKept) = some false
 ki_NoTerm_NoNumber : PySem.W.kitOne K (.ref c_NoTerm) (.ref c_NoNumber) = some false
 ki_NoTerm_NoPlace : PySem.W.kitOne K (.ref c_NoTerm) (.ref c_NoPlace) = some false
 ki_NoTerm_NoTerm : PySem.W.kitOne K (.ref c_NoTerm) (.ref c_NoTerm) = some true
 ki_NoTerm_NoEnds : PySem.W.kitOne K (.ref c_NoTerm) (.ref c_NoEnds) = some false
 ki_NoTerm_NoLine : PySem.W.kitOne K (.ref c_NoTerm) (.ref c_NoLine) = some false
 ki_NoTerm_NoName : PySem.W.kitOne K (.ref c_NoTerm) (.ref c_NoName) = some false
 ki_NoTerm_ValueError : PySem.W.kitOne K (.ref c_NoTerm) (.type "ValueError") = some true
 z_all : mg "all" = none
 z_zip : mg "zip" = none
 z_len : mg "len" = none
 z_abs : mg "abs" = none
 z_range : mg "range" = none
 z_tuple : mg "tuple" = none
 z_isinstance : mg "isinstance" = none
 z_ValueError : mg "ValueError" = none
 z_list : mg "list" = none
 g_MOST_PARTS : { t : Tok // mg "MOST_PARTS" = some (.int 6 t) }
 gt_GREATEST : { u : Addr // mg "GREATEST" = some (.ref u) ∧ ∀ H : Hp, SqT K H u [.int (3), .int (3), .int (9)] }
 gt_UPPER_LEAST : { u : Addr // mg "UPPER_LEAST" = some (.ref u) ∧ ∀ H : Hp, SqT K H u [.int (0), .int (0), .int (0)] }
 gt_LOWER_LEAST : { u : Addr // mg "LOWER_LEAST" = some (.ref u) ∧ ∀ H : Hp, SqT K H u [.int (-3), .int (-3), .int (-9)] }
theorem bd_le {k : Nat} {x y : Int} (h : x.natAbs <= y.natAbs) (b : Bd k y) : Bd k x := Nat.lt_of_le_of_lt h b
def Frc (f : Int × Int) : Prop := 1 <= f.2 ∧ Nat.gcd f.1.natAbs f.2.natAbs = 1
def spLowF (K : PySem.W.Frag) : Sp := fun vs H Q _ => ∃ (p q : Addr) (a b c d e f : Int), vs = [.ref p, .ref q] ∧ SqT K H p [.int a, .int b, .int c] ∧ SqT K H q [.int d, .int e, .int f] ∧
 ∀ (L t : Addr) (H' : Hp), Same H H' -> H L = none -> H t = none -> H' L = some (.lst [.ref q, .ref t]) -> H' t = some (.tup [.int (a - d), .int (b - e), .int (c - f)]) -> Q (.ref L) H'
theorem ok_low_forms {P : Program} {w : World} {K : PySem.W.Frag} {mg : Str -> Option Value} {base : Heap} (T : Tx K mg) : FnOk P w K mg base CX0 1 T.a_low_forms T.fd_low_forms ["upper", "lower"] (spLowF K) := by
 refine T.F_low_forms.ok sc_low_forms (fun vs H Q E h => ?_) (fun cdv A outer s H vs Q E hr h => ?_)
 ·obtain ⟨p, q, a, b, c, d, e, f, rfl, _⟩ := h
  rfl
 obtain ⟨p, q, a, b, c, d, e, f, rfl, hp, hq, z⟩ := h
 refine ⟨_, ((pss_one (ps_ret (pe_lst (pa_cons (pv 1) (pa_cons (pe_tup (pa_cons (pe_op op_sub (pe_ix ix_tup (pv 0) pe_int (fun _ _ => rfl)) (pe_ix ix_tup (pv 1) pe_int (fun _ _ => rfl))) (pa_cons (pe_op op_sub (pe_ix ix_tup (pv 0) pe_int (fun _ _ => rfl)) (pe_ix ix_tup (pv 1) pe_int (fun _ _ => rfl))) (pa_cons (pe_op op_sub (pe_ix ix_tup (pv 0) pe_int (fun _ _ => rfl)) (pe_ix ix_tup (pv 1) pe_int (fun _ _ => rfl))) pa_nil)))) pa_nil)))))), ?_⟩
 k_units
 refine ⟨_, hp, _, rfl, _, hq, _, rfl, _, rfl, _, rfl, _, hp, _, rfl, _, hq, _, rfl, _, rfl, _, rfl, _, hp, _, rfl, _, hq, _, rfl, _, rfl, _, rfl, by decide, fun t nt => ⟨by decide, fun L nL => ?_⟩⟩
 have u1 := same_upd nt (.tup [V.int (a - d), V.int (b - e), V.int (c - f)])
 have u2 := same_upd nL (.lst [V.ref q, V.ref t])
 exact z L t _ (u1.trans u2) (u1.free nL) nt upd_same (u2 _ _ upd_same)
def wgtF (p : Addr) : List (Str × V) := [(Str.ofString "form", .ref p)]
def spWInit (C : Addr) : Sp := fun vs H Q _ => ∃ x dx p : Addr, vs = [.ref x, .ref p] ∧ H x = some (.ins C dx []) ∧ Q .non (upd H x (.ins C dx (wgtF p)))
theorem ok_Weight___init__ {P : Program} {w : World} {K : PySem.W.Frag} {mg : Str -> Option Value} {base : Heap} (T : Tx K mg) : FnOk P w K mg base CX0 1 T.a_Weight___init__ T.fd_Weight___init__ ["self", "form"] (spWInit T.c_Weight) := by
 refine T.F_Weight___init__.ok sc_Weight___init__ (fun vs H Q E h => ?_) (fun cdv A outer s H vs Q E hr h => ?_)
 ·obtain ⟨x, dx, p, rfl, _⟩ := h
  rfl
 obtain ⟨x, dx, p, rfl, hx, q⟩ := h
 refine ⟨_, ((pss_one (ps_fld (pv 0) (pv 1) rfl))), ?_⟩
 k_units
 exact ⟨T.c_Weight, dx, [], hx, T.cl_Weight, T.na_Weight_form, by decide, q⟩
def powF (p : Addr) : List (Str × V) := [(Str.ofString "fraction", .ref p)]
def spPInit (C : Addr) : Sp := fun vs H Q _ => ∃ x dx p : Addr, vs = [.ref x, .ref p] ∧ H x = some (.ins C dx []) ∧ Q .non (upd H x (.ins C dx (powF p)))
theorem ok_Power___init__ {P : Program} {w : World} {K : PySem.W.Frag} {mg : Str -> Option Value} {base : Heap} (T : Tx K mg) : FnOk P w K mg base CX0 1 T.a_Power___init__ T.fd_Power___init__ ["self", "fraction"] (spPInit T.c_Power) := by
 refine T.F_Power___init__.ok sc_Power___init__ (fun vs H Q E h => ?_) (fun cdv A outer s H vs Q E hr h => ?_)
 ·obtain ⟨x, dx, p, rfl, _⟩ := h
  rfl
 obtain ⟨x, dx, p, rfl, hx, q⟩ := h
 refine ⟨_, ((pss_one (ps_fld (pv 0) (pv 1) rfl))), ?_⟩
 k_units
 exact ⟨T.c_Power, dx, [], hx, T.cl_Power, T.na_Power_fraction, by decide, q⟩
theorem ok_Growth___init__ {P : Program} {w : World} {K : PySem.W.Frag} {mg : Str -> Option Value} {base : Heap} (T : Tx K mg) : FnOk P w K mg base CX0 1 T.a_Growth___init__ T.fd_Growth___init__ ["self", "fraction"] (spPInit T.c_Growth) := by
 refine T.F_Growth___init__.ok sc_Growth___init__ (fun vs H Q E h => ?_) (fun cdv A outer s H vs Q E hr h => ?_)
 ·obtain ⟨x, dx, p, rfl, _⟩ := h
  rfl
 obtain ⟨x, dx, p, rfl, hx, q⟩ := h
 refine ⟨_, ((pss_one (ps_fld (pv 0) (pv 1) rfl))), ?_⟩
 k_units
 exact ⟨T.c_Growth, dx, [], hx, T.cl_Growth, T.na_Growth_fraction, by decide, q⟩
def chsF (p L : Addr) : List (Str × V) := [(Str.ofString "above", .ref p), (Str.ofString "lows", .ref L)]
def spCInit (K : PySem.W.Frag) (C : Addr) : Sp := fun vs H Q _ => ∃ (x dx p q : Addr) (a b c d e f : Int), vs = [.ref x, .ref p, .ref q] ∧ H x = some (.ins C dx []) ∧ SqT K H p [.int a, .int b, .int c] ∧ SqT K H q [.int d, .int e, .int f] ∧
 ∀ (L t : Addr) (H' : Hp), (∀ y o, y ≠ x -> H y = some o -> H' y = some o) -> H L = none -> H t = none -> H' x = some (.ins C dx (chsF p L)) -> H' L = some (.lst [.ref q, .ref t]) -> H' t = some (.tup [.int (a - d), .int (b - e), .int (c - f)]) -> Q .non H'
theorem SqT.updI {K : PySem.W.Frag} {H : Hp} {a x C dx : Addr} {xs : List V} {fs : List (Str × V)} {o : HO} (h : SqT K H a xs) (e : H x = some (.ins C dx fs)) : SqT K (L2.upd H x o) a xs := by
 rcases h with (h | ⟨u, h⟩) | h
 ·exact .inl (.inl (by rw [upd_ne (ne_of h e (fun z => nomatch z))]; exact h))
 ·exact .inl (.inr ⟨u, by rw [upd_ne (ne_of h e (fun z => nomatch z))]; exact h⟩)
 ·exact .inr h
theorem ok_Choose___init__ {P : Program} {w : World} {K : PySem.W.Frag} {mg : Str -> Option Value} {base : Heap} (T : Tx K mg) : FnOk P w K mg base CX0 2 T.a_Choose___init__ T.fd_Choose___init__ ["self", "upper", "lower"] (spCInit K T.c_Choose) := by
 refine T.F_Choose___init__.ok sc_Choose___init__ (fun vs H Q E h => ?_) (fun cdv A outer s H vs Q E hr h => ?_)
 ·obtain ⟨x, dx, p, q, a, b, c, d, e, f, rfl, _⟩ := h
  rfl
 obtain ⟨x, dx, p, q, a, b, c, d, e, f, rfl, hx, hp, hq, z⟩ := h
 refine ⟨_, ((pss_cons (ps_fld (pv 0) (pv 1) rfl)
  (pss_one (ps_fld (pv 0) (pe_call (FnOk.mono (ok_low_forms T) (by decide)) hr rfl T.m_low_forms T.F_low_forms.kp T.b_low_forms .nil pass0 (pa_cons (pv 1) (pa_cons (pv 2) pa_nil))) rfl)))), ?_⟩
 k_units
 refine ⟨T.c_Choose, dx, [], hx, T.cl_Choose, T.na_Choose_above, by decide, ?_⟩
 have ex1 : upd H x (.ins T.c_Choose dx (putF "above" (.ref p) [])) x = some (.ins T.c_Choose dx [("above", .ref p)]) := upd_same
 have hp1 := SqT.updI (o := .ins T.c_Choose dx (putF "above" (.ref p) [])) hp hx
 have hq1 := SqT.updI (o := .ins T.c_Choose dx (putF "above" (.ref p) [])) hq hx
 have k1 : ∀ y o, y ≠ x -> H y = some o -> upd H x (.ins T.c_Choose dx (putF "above" (.ref p) [])) y = some o := fun y o hy e => by rw [upd_ne hy]; exact e
 have n1 : ∀ y, upd H x (.ins T.c_Choose dx (putF "above" (.ref p) [])) y = none -> H y = none := fun y e => by
  by_cases hy : y = x
  ·rw [hy, upd_same] at e; cases e
  ·rw [upd_ne hy] at e; exact e
 generalize upd H x (.ins T.c_Choose dx (putF "above" (.ref p) [])) = G at ex1 hp1 hq1 k1 n1 ⊢
 refine ⟨p, q, a, b, c, d, e, f, rfl, hp1, hq1, fun L t H1 s1 nL nt eL et => ?_⟩
 refine ⟨T.c_Choose, dx, _, s1 _ _ ex1, T.cl_Choose, T.na_Choose_lows, by show 1 < 1000; decide, ?_⟩
 have pf : putF "lows" (.ref L) [("above", V.ref p)] = chsF p L := rfl
 rw [pf]
 have nLx : L ≠ x := fun hz => by rw [hz, ex1] at nL; cases nL
 have ntx : t ≠ x := fun hz => by rw [hz, ex1] at nt; cases nt
 exact z L t _ (fun y o hy e => by rw [upd_ne hy]; exact s1 _ _ (k1 y o hy e)) (n1 _ nL) (n1 _ nt) upd_same (by rw [upd_ne nLx]; exact eL) (by rw [upd_ne ntx]; exact et)
inductive Prt where
 | cho (h l : Int × Int × Int)
 | wei (f : Int × Int × Int)
 | pow (f : Int × Int)
 | gro (f : Int × Int)
def subF (h l : Int × Int × Int) : Int × Int × Int := (h.1 - l.1, h.2.1 - l.2.1, h.2.2 - l.2.2)
def ChoOk (h l : Int × Int × Int) : Prop := (0 <= h.1 ∧ h.1 <= 3 ∧ 0 <= h.2.1 ∧ h.2.1 <= 3 ∧ 0 <= h.2.2 ∧ h.2.2 <= 9) ∧ (-3 <= l.1 ∧ l.1 <= 3 ∧ -3 <= l.2.1 ∧ l.2.1 <= 3 ∧ -9 <= l.2.2 ∧ l.2.2 <= 9) ∧ ¬ (l.1 = 0 ∧ l.2.1 < 0) ∧ ¬ (h.1 - l.1 = 0 ∧ h.2.1 - l.2.1 < 0)
def PrtOk : Prt -> Prop
 | .cho h l => ChoOk h l
 | .wei f => Bd 300 f.1 ∧ Bd 300 f.2.1 ∧ Bd 300 f.2.2
 | .pow f => Frc f ∧ f.1 ≠ 0 ∧ Bd 70 f.1 ∧ Bd 20 f.2
 | .gro f => Frc f ∧ f.1 ≠ 0 ∧ Bd 70 f.1 ∧ Bd 20 f.2
theorem cl_zip3 {K : PySem.W.Frag} {a b c : Addr} {xs ys zs : List V} {fv : List (Nat × Str)} {te : TE} {Q : VK} {σ : L2.St} {H1 : Hp} {D : Addr} (Pv : Nat -> Hp -> Prop) (ly : ys.length = xs.length) (lz : zs.length = xs.length) (h0 : Pv 0 (L2.upd H1 D (.lst []))) (hl : ∀ i H, Pv i H -> SqT K H a xs ∧ SqT K H b ys ∧ SqT K H c zs)
  (hs : ∀ i v1 v2 v3 p H, xs[i]? = some v1 -> ys[i]? = some v2 -> zs[i]? = some v3 -> Pv i H -> H p = none -> te (bst3 fv σ (some v1) (some v2) (some v3)) (L2.upd H p (.tup [v1, v2, v3])) fun y H2 => ∃ us, H2 D = some (.lst us) ∧ us.length < sizeLine ∧ Pv (i + 1) (L2.upd H2 D (.lst (us ++ [y]))))
  (hd : ∀ H, Pv xs.length H -> Q (.ref D) H) : CLoop3 K (Itz3 K a b c) fv te Q σ H1 D := by
 refine ⟨fun i m H => m = xs.length - i ∧ i <= xs.length ∧ Pv i H, ⟨_, rfl, Nat.zero_le _, h0⟩, ?_⟩
 rintro i m H ⟨rfl, hi, p⟩
 obtain ⟨q1, q2, q3⟩ := hl i H p
 by_cases hlt : i < xs.length
 ·refine .inr ⟨⟨xs, ys, zs, xs[i], ys[i], zs[i], q1, q2, q3, List.getElem?_eq_getElem hlt, List.getElem?_eq_getElem (by omega), List.getElem?_eq_getElem (by omega)⟩, Pv (i + 1), fun H' p' => ⟨xs.length - (i + 1), by omega, rfl, hlt, p'⟩, fun v H' y => ?_⟩
  obtain ⟨pa, x1, x2, x3, hn, e1, e2, y1, y2, y3⟩ := y
  subst e1 e2
  exact ⟨pa, x1, x2, x3, rfl, .inl (.inl upd_same), hs i x1 x2 x3 pa H (y1 xs q1) (y2 ys q2) (y3 zs q3) p hn⟩
 ·have e : i = xs.length := by omega
  refine .inl ⟨⟨xs, q1, by omega⟩, ?_⟩
  rw [e] at p
  exact hd H p
def wIn (f g : Int × Int × Int) : List Bool := [decide (g.1 <= f.1 ∧ f.1 <= 3), decide (g.2.1 <= f.2.1 ∧ f.2.1 <= 3), decide (g.2.2 <= f.2.2 ∧ f.2.2 <= 9)]
def spWithin (K : PySem.W.Frag) : Sp := fun vs H Q _ => ∃ (p q : Addr) (f g : Int × Int × Int), vs = [.ref p, .ref q] ∧ SqT K H p [.int f.1, .int f.2.1, .int f.2.2] ∧ SqT K H q [.int g.1, .int g.2.1, .int g.2.2] ∧ ∀ H', Same H H' -> Q (.bl ((wIn f g).all id)) H'
theorem ok_within {P : Program} {w : World} {K : PySem.W.Frag} {mg : Str -> Option Value} {base : Heap} (T : Tx K mg) : FnOk P w K mg base CX0 1 T.a_within T.fd_within ["form", "least"] (spWithin K) := by
 refine T.F_within.ok sc_within (fun vs H Q E h => ?_) (fun cdv A outer s H vs Q E hr h => ?_)
 ·obtain ⟨p, q, f, g, rfl, _⟩ := h
  rfl
 obtain ⟨p, q, f, g, rfl, hp, hq, k⟩ := h
 refine ⟨_, ((pss_one (ps_ret (pe_callB (call_allL rfl) rfl T.z_all boot_all (pa_cons (pe_lcomp3 rfl (blkok3 rfl sub_nil fv_nil2) (pi_zip3 rfl T.z_zip (pa_cons (pv 1) (pa_cons (pv 0) (pa_cons (pe_glob (v := .ref T.gt_GREATEST.1) rfl T.gt_GREATEST.2.1 rfl) pa_nil)))) (fun _ _ _ _ => (pe_chain op_le op_le (pv 0) (pv 1) (pv 2)))) pa_nil))))), ?_⟩
 k_units
 refine ⟨_, hq, _, hp, _, T.gt_GREATEST.2.2 H, fun D nD => ?_⟩
 obtain ⟨Pc, hPc⟩ : ∃ Pc : Nat -> Hp -> Prop, ∀ j Hx, Pc j Hx ↔ Hx D = some (.lst (((wIn f g).take j).map V.bl)) ∧ Same H Hx := ⟨_, fun _ _ => Iff.rfl⟩
 refine cl_zip3 (xs := [V.int g.1, V.int g.2.1, V.int g.2.2]) (ys := [V.int f.1, V.int f.2.1, V.int f.2.2]) (zs := [V.int 3, V.int 3, V.int 9]) Pc rfl rfl ((hPc _ _).mpr ⟨upd_same, same_upd nD _⟩) (fun i Hx y => by obtain ⟨_, y⟩ := (hPc i Hx).mp y; exact ⟨y.seqT hq, y.seqT hp, T.gt_GREATEST.2.2 Hx⟩) ?_ ?_
 ·intro i v1 v2 v3 r Hx e1 e2 e3 hc nr
  obtain ⟨k1, k2⟩ := (hPc _ _).mp hc
  obtain ⟨x1, x2, x3, rfl, rfl, rfl, hw, hi⟩ : ∃ x1 x2 x3 : Int, v1 = .int x1 ∧ v2 = .int x2 ∧ v3 = .int x3 ∧ (wIn f g).take (i + 1) = (wIn f g).take i ++ [decide (x1 <= x2 ∧ x2 <= x3)] ∧ i < 3 := by
   match i, e1, e2, e3 with
   | 0, e1, e2, e3 => exact ⟨_, _, _, (Option.some.inj e1).symm, (Option.some.inj e2).symm, (Option.some.inj e3).symm, rfl, by decide⟩
   | 1, e1, e2, e3 => exact ⟨_, _, _, (Option.some.inj e1).symm, (Option.some.inj e2).symm, (Option.some.inj e3).symm, rfl, by decide⟩
   | 2, e1, e2, e3 => exact ⟨_, _, _, (Option.some.inj e1).symm, (Option.some.inj e2).symm, (Option.some.inj e3).symm, rfl, by decide⟩
   | j + 3, e1, e2, e3 => simp at e1
  (iterate 3 (k_units; (try simp only [bst3])); k_units)
  have u := same_upd nr (.tup [V.int x1, V.int x2, V.int x3])
  refine ite2 (fun l1 => ⟨_, u _ _ k1, ?_, (hPc _ _).mpr ⟨?_, (k2.trans u).more nD⟩⟩) (fun l1 => ⟨_, u _ _ k1, ?_, (hPc _ _).mpr ⟨?_, (k2.trans u).more nD⟩⟩)
  ·rw [List.length_map, List.length_take]; exact small1000 (by omega)
  ·rw [upd_same, hw, List.map_append, show decide (x1 <= x2 ∧ x2 <= x3) = decide (x2 <= x3) by simp [l1]]; rfl
  ·rw [List.length_map, List.length_take]; exact small1000 (by omega)
  ·rw [upd_same, hw, List.map_append, show decide (x1 <= x2 ∧ x2 <= x3) = false by simp [l1]]; rfl
 intro Hx hc
 obtain ⟨k1, k2⟩ := (hPc _ _).mp hc
 exact ⟨D, rfl, _, SqL.of k1, k Hx k2⟩
theorem cho_iff (h l : Int × Int × Int) : ChoOk h l ↔ (wIn h (0, 0, 0)).all id = true ∧ (wIn l (-3, -3, -9)).all id = true ∧ ¬ (l.1 = 0 ∧ l.2.1 < 0) ∧ ¬ (h.1 - l.1 = 0 ∧ h.2.1 - l.2.1 < 0) := by
 unfold ChoOk wIn
 simp only [List.all_cons, List.all_nil, id, Bool.and_true, Bool.and_eq_true, decide_eq_true_eq]
 constructor
 ·rintro ⟨⟨a1, a2, a3, a4, a5, a6⟩, ⟨b1, b2, b3, b4, b5, b6⟩, f1, f2⟩
  exact ⟨⟨⟨a1, a2⟩, ⟨a3, a4⟩, a5, a6⟩, ⟨⟨b1, b2⟩, ⟨b3, b4⟩, b5, b6⟩, f1, f2⟩
 ·rintro ⟨⟨⟨a1, a2⟩, ⟨a3, a4⟩, a5, a6⟩, ⟨⟨b1, b2⟩, ⟨b3, b4⟩, b5, b6⟩, f1, f2⟩
  exact ⟨⟨a1, a2, a3, a4, a5, a6⟩, ⟨b1, b2, b3, b4, b5, b6⟩, f1, f2⟩
def spChk (K : PySem.W.Frag) (C : Addr) : Sp := fun vs H Q E => ∃ (p q : Addr) (h l : Int × Int × Int), vs = [.ref p, .ref q] ∧ SqT K H p [.int h.1, .int h.2.1, .int h.2.2] ∧ SqT K H q [.int l.1, .int l.2.1, .int l.2.2] ∧ (ChoOk h l -> ∀ H', Same H H' -> Q .non H') ∧ (¬ ChoOk h l -> ∀ H', Same H H' -> E (.ref C) none H')
theorem ok_check_choose {P : Program} {w : World} {K : PySem.W.Frag} {mg : Str -> Option Value} {base : Heap} (T : Tx K mg) : FnOk P w K mg base (CXE P w) 2 T.a_check_choose T.fd_check_choose ["upper", "lower"] (spChk K T.c_NoTerm) := by
 refine T.F_check_choose.okE sc_check_choose (fun vs H Q E h => ?_) (fun cdv A outer s H vs Q E hr h => ?_)
 ·obtain ⟨p, q, h, l, rfl, _⟩ := h
  rfl
 obtain ⟨p, q, h, l, rfl, hp, hq, kq, ke⟩ := h
 rw [cho_iff] at kq ke
 refine ⟨_, ((pss_cons (ps_if (PT.nox (PW.pt (pw_or (pt_not (pt_val (pe_call (FnOk.mono (ok_within T) (by decide)) hr rfl T.m_within T.F_within.kp T.b_within .nil pass0 (pa_cons (pv 0) (pa_cons (pe_glob (v := .ref T.gt_UPPER_LEAST.1) rfl T.gt_UPPER_LEAST.2.1 rfl) pa_nil))))) (pw_or1 (pt_not (pt_val (pe_call (FnOk.mono (ok_within T) (by decide)) hr rfl T.m_within T.F_within.kp T.b_within .nil pass0 (pa_cons (pv 1) (pa_cons (pe_glob (v := .ref T.gt_LOWER_LEAST.1) rfl T.gt_LOWER_LEAST.2.1 rfl) pa_nil))))))))) (pss_one (ps_raise rfl throwE rfl T.mc_NoTerm T.xc_NoTerm (pa_cons pe_str pa_nil))) pss_nil)
  (pss_one (ps_for PassesOwn.leaving rfl (pi_list (pe_call (FnOk.mono (ok_low_forms T) (by decide)) hr rfl T.m_low_forms T.F_low_forms.kp T.b_low_forms .nil pass0 (pa_cons (pv 0) (pa_cons (pv 1) pa_nil)))) (pg_name (i := 2) sc_check_choose.nd rfl (Or.inl rfl)) (pss_one (ps_if (PT.nox (PW.pt (pw_and (pt_cmpR op_eq (pe_ix ix_tup (pv 2) pe_int (fun _ _ => rfl)) pe_int (nomark _)) (pw_and1 (pt_cmpR op_lt (pe_ix ix_tup (pv 2) pe_int (fun _ _ => rfl)) pe_int (nomark _)))))) (pss_one (ps_raise rfl throwE rfl T.mc_NoTerm T.xc_NoTerm (pa_cons pe_str pa_nil))) pss_nil)))))), ?_⟩
 k_units
 refine ⟨p, T.gt_UPPER_LEAST.1, h, (0, 0, 0), rfl, hp, T.gt_UPPER_LEAST.2.2 H, fun H1 s1 => ⟨_, rfl, ?_⟩⟩
 cases hb : (wIn h (0, 0, 0)).all id with
 | false =>
  rw [if_pos rfl]
  exact ⟨by decide, ke (fun z => by rw [hb] at z; exact absurd z.1 (by decide)) H1 s1⟩
 | true =>
 rw [if_neg (by decide)]
 refine ⟨q, T.gt_LOWER_LEAST.1, l, (-3, -3, -9), rfl, s1.seqT hq, T.gt_LOWER_LEAST.2.2 H1, fun H2 s2 => ⟨_, rfl, ?_⟩⟩
 have s12 := s1.trans s2
 cases hb2 : (wIn l (-3, -3, -9)).all id with
 | false =>
  rw [if_pos rfl]
  exact ⟨by decide, ke (fun z => by rw [hb2] at z; exact absurd z.2.1 (by decide)) H2 s12⟩
 | true =>
 rw [if_neg (by decide)]
 refine ⟨p, q, h.1, h.2.1, h.2.2, l.1, l.2.1, l.2.2, rfl, s12.seqT hp, s12.seqT hq, fun L t H3 s3 nL nt eL et => ⟨L, rfl, ⟨_, SqL.of eL⟩, ?_⟩⟩
 have s13 := s12.trans s3
 obtain ⟨Pv, hPv⟩ : ∃ Pv : Nat -> L2.St -> Hp -> Prop, ∀ i σ H', Pv i σ H' ↔ ∃ r : Option V, σ = [some (V.ref p), some (V.ref q), r] ∧ H' = H3 ∧ (1 <= i -> ¬ (l.1 = 0 ∧ l.2.1 < 0)) ∧ (2 <= i -> ¬ (h.1 - l.1 = 0 ∧ h.2.1 - l.2.1 < 0)) := ⟨_, fun _ _ _ => Iff.rfl⟩
 refine lp_list (xs := [V.ref q, V.ref t]) Pv ((hPv _ _ _).mpr ⟨none, rfl, rfl, fun z => by omega, fun z => by omega⟩) (fun i σ H' _ z => by obtain ⟨_, _, rfl, _⟩ := (hPv _ _ _).mp z; exact SqL.of eL) ?_ ?_
 ·intro i v σ H' hv hp'
  obtain ⟨r, rfl, rfl, c1, c2⟩ := (hPv _ _ _).mp hp'
  obtain ⟨u, f, rfl, eu, nf, no⟩ : ∃ (u : Addr) (f : Int × Int × Int), v = V.ref u ∧ SqT K H' u [.int f.1, .int f.2.1, .int f.2.2] ∧ (¬ (f.1 = 0 ∧ f.2.1 < 0) -> (1 <= i + 1 -> ¬ (l.1 = 0 ∧ l.2.1 < 0)) ∧ (2 <= i + 1 -> ¬ (h.1 - l.1 = 0 ∧ h.2.1 - l.2.1 < 0))) ∧ (f.1 = 0 ∧ f.2.1 < 0 -> ¬ (¬ (l.1 = 0 ∧ l.2.1 < 0) ∧ ¬ (h.1 - l.1 = 0 ∧ h.2.1 - l.2.1 < 0))) := by
   match i, hv, c1, c2 with
   | 0, hv, c1, c2 => exact ⟨q, l, (Option.some.inj hv).symm, s13.seqT hq, fun z => ⟨fun _ => z, fun z => by omega⟩, fun z y => y.1 z⟩
   | 1, hv, c1, c2 => exact ⟨t, subF h l, (Option.some.inj hv).symm, SqT.of et, fun z => ⟨fun _ => c1 (by decide), fun _ => z⟩, fun z y => y.2 z⟩
   | j + 2, hv, c1, c2 => simp at hv
  k_units
  refine ⟨_, eu, _, rfl, ?_⟩
  k_units
  refine ite2 (fun z => ?_) (fun z => (hPv _ _ _).mpr ⟨_, rfl, rfl, nf fun y => z y.1⟩)
  refine ⟨_, eu, _, rfl, ?_⟩
  k_units
  exact ite2 (fun z2 => ⟨by decide, ke (fun y => no ⟨z, z2⟩ y.2.2) _ s13⟩) (fun z2 => (hPv _ _ _).mpr ⟨_, rfl, rfl, nf fun y => z2 y.2⟩)
 ·intro σ H' hp'
  obtain ⟨r, rfl, rfl, c1, c2⟩ := (hPv _ _ _).mp hp'
  exact kq ⟨hb, hb2, c1 (by simp), c2 (by simp)⟩ H' s13
def spChkB (K : PySem.W.Frag) (C : Addr) : Sp := fun vs H Q E => ∃ (p : Addr) (f : Int × Int), vs = [.ref p] ∧ SqT K H p [.int f.1, .int f.2] ∧ (f.1 ≠ 0 -> Q .non H) ∧ (f.1 = 0 -> E (.ref C) none H)
theorem ok_check_base {P : Program} {w : World} {K : PySem.W.Frag} {mg : Str -> Option Value} {base : Heap} (T : Tx K mg) : FnOk P w K mg base (CXE P w) 1 T.a_check_base T.fd_check_base ["fraction"] (spChkB K T.c_NoTerm) := by
 refine T.F_check_base.okE sc_check_base (fun vs H Q E h => ?_) (fun cdv A outer s H vs Q E hr h => ?_)
 ·obtain ⟨p, f, rfl, _⟩ := h
  rfl
 obtain ⟨p, f, rfl, hp, k, ke⟩ := h
 refine ⟨_, ((pss_one (ps_if (PT.nox (pt_cmpR op_eq (pe_ix ix_tup (pv 0) pe_int (fun _ _ => rfl)) pe_int (nomark _))) (pss_one (ps_raise rfl throwE rfl T.mc_NoTerm T.xc_NoTerm (pa_cons pe_str pa_nil))) pss_nil))), ?_⟩
 k_units
 refine ⟨_, hp, _, rfl, ?_⟩
 k_units
 exact ite2 (fun z => ⟨by decide, ke z⟩) (fun z => k z)
abbrev T3 (f : Int × Int × Int) : HO := .tup [.int f.1, .int f.2.1, .int f.2.2]
abbrev T2 (f : Int × Int) : HO := .tup [.int f.1, .int f.2]
def PtAt (H : Hp) (r : Addr) : Prt -> Prop
 | .cho h l => ∃ a b, H r = some (.tup [.str (Str.ofString "choose"), .ref a, .ref b]) ∧ H a = some (T3 h) ∧ H b = some (T3 l)
 | .wei f => ∃ a, H r = some (.tup [.str (Str.ofString "weight"), .ref a]) ∧ H a = some (T3 f)
 | .pow f => ∃ a, H r = some (.tup [.str (Str.ofString "power"), .ref a]) ∧ H a = some (T2 f)
 | .gro f => ∃ a, H r = some (.tup [.str (Str.ofString "growth"), .ref a]) ∧ H a = some (T2 f)
def PcAt {K : PySem.W.Frag} {mg : Str -> Option Value} (T : Tx K mg) (H0 H : Hp) (r : Addr) : Prt -> Prop
 | .cho h l => ∃ dx a L b t, H r = some (.ins T.c_Choose dx (chsF a L)) ∧ H a = some (T3 h) ∧ H0 L = none ∧ H L = some (.lst [.ref b, .ref t]) ∧ H b = some (T3 l) ∧ H t = some (T3 (subF h l))
 | .wei f => ∃ dx a, H r = some (.ins T.c_Weight dx (wgtF a)) ∧ H a = some (T3 f)
 | .pow f => ∃ dx a, H r = some (.ins T.c_Power dx (powF a)) ∧ H a = some (T2 f)
 | .gro f => ∃ dx a, H r = some (.ins T.c_Growth dx (powF a)) ∧ H a = some (T2 f)
inductive Nice (H0 : Hp) (a : Addr) : HO -> Prop where
 | lst {xs : List V} (h : H0 a = none) : Nice H0 a (.lst xs)
 | tup {xs : List V} : Nice H0 a (.tup xs)
 | ins {C dx : Addr} {fs : List (Str × V)} (h : fs.lookup (Str.ofString "parts") = none) : Nice H0 a (.ins C dx fs)
def Kp (H0 H H' : Hp) : Prop := ∀ a o, H a = some o -> Nice H0 a o -> H' a = some o
theorem kpD {H0 H H1 : Hp} {D : Addr} {xs ys : List V} (s : Same H H1) (h0 : H0 D ≠ none) (h : H D = some (.lst xs)) : Kp H0 H (L2.upd H1 D (.lst ys)) := fun a o e n => by
 have : a ≠ D := fun z => by
  subst z
  rw [h] at e
  cases e
  cases n with
  | lst z => exact h0 z
 rw [upd_ne this]; exact s _ _ e
theorem PtAt.kt {H H' : Hp} {r : Addr} {p : Prt} (h : PtAt H r p) (k : ∀ a xs, H a = some (.tup xs) -> H' a = some (.tup xs)) : PtAt H' r p := by
 match p, h with
 | .cho f l, ⟨a, b, h1, h2, h3⟩ => exact ⟨a, b, k _ _ h1, k _ _ h2, k _ _ h3⟩
 | .wei f, ⟨a, h1, h2⟩ => exact ⟨a, k _ _ h1, k _ _ h2⟩
 | .pow f, ⟨a, h1, h2⟩ => exact ⟨a, k _ _ h1, k _ _ h2⟩
 | .gro f, ⟨a, h1, h2⟩ => exact ⟨a, k _ _ h1, k _ _ h2⟩
theorem PcAt.kp {K : PySem.W.Frag} {mg : Str -> Option Value} {T : Tx K mg} {H0 H H' : Hp} {r : Addr} {p : Prt} (h : PcAt T H0 H r p) (k : Kp H0 H H') : PcAt T H0 H' r p := by
 match p, h with
 | .cho f l, ⟨dx, a, L, b, t, h1, h2, h3, h4, h5, h6⟩ => exact ⟨dx, a, L, b, t, k _ _ h1 (.ins rfl), k _ _ h2 .tup, h3, k _ _ h4 (.lst h3), k _ _ h5 .tup, k _ _ h6 .tup⟩
 | .wei f, ⟨dx, a, h1, h2⟩ => exact ⟨dx, a, k _ _ h1 (.ins rfl), k _ _ h2 .tup⟩
 | .pow f, ⟨dx, a, h1, h2⟩ => exact ⟨dx, a, k _ _ h1 (.ins rfl), k _ _ h2 .tup⟩
 | .gro f, ⟨dx, a, h1, h2⟩ => exact ⟨dx, a, k _ _ h1 (.ins rfl), k _ _ h2 .tup⟩
theorem PcAt.fr {K : PySem.W.Frag} {mg : Str -> Option Value} {T : Tx K mg} {H00 H0 H : Hp} {r : Addr} {p : Prt} (h : PcAt T H0 H r p) (s : ∀ y, H0 y = none -> H00 y = none) : PcAt T H00 H r p := by
 match p, h with
 | .cho f l, ⟨dx, a, L, b, t, h1, h2, h3, h4⟩ => exact ⟨dx, a, L, b, t, h1, h2, s _ h3, h4⟩
 | .wei f, h => exact h
 | .pow f, h => exact h
 | .gro f, h => exact h
theorem PcAt.from {K : PySem.W.Frag} {mg : Str -> Option Value} {T : Tx K mg} {H00 H0 H : Hp} {r : Addr} {p : Prt} (h : PcAt T H0 H r p) (s : Same H00 H0) : PcAt T H00 H r p := h.fr fun y e => s.free e
def mkP {K : PySem.W.Frag} {mg : Str -> Option Value} (T : Tx K mg) (H : Hp) (Q : VK) (p : Prt) : Prop := ∀ (x : Addr) (H' : Hp), Same H H' -> PcAt T H H' x p -> Q (.ref x) H'
theorem mkP.on {K : PySem.W.Frag} {mg : Str -> Option Value} {T : Tx K mg} {H H1 : Hp} {Q : VK} {p : Prt} (k : mkP T H Q p) (s : Same H H1) : mkP T H1 Q p := fun x H' s' h => k x H' (s.trans s') (h.from s)
theorem same_new {H : Hp} {x dx : Addr} {o u : HO} (hx : H x = none) (hd : H dx = none) : Same H (L2.upd (L2.upd H dx u) x o) := fun b v e => by rw [upd_ne (ne_of_none e hx), upd_ne (ne_of_none e hd)]; exact e
theorem mk_cho {K : PySem.W.Frag} {mg : Str -> Option Value} {T : Tx K mg} {H : Hp} {Q : VK} {E : XK} {a b : Addr} {h l : Int × Int × Int} (ha : H a = some (T3 h)) (hb : H b = some (T3 l)) (k : mkP T H Q (.cho h l)) (x dx : Addr) (hx : H x = none) (hd : H dx = none) (_ : dx ≠ x) :
  spCInit K T.c_Choose [.ref x, .ref a, .ref b] (L2.upd (L2.upd H dx (.own x)) x (.ins T.c_Choose dx [])) (fun v H2 => v = V.non ∧ Q (.ref x) H2) E := by
 have s1 : Same H (L2.upd (L2.upd H dx (.own x)) x (.ins T.c_Choose dx [])) := same_new hx hd
 refine ⟨x, dx, a, b, h.1, h.2.1, h.2.2, l.1, l.2.1, l.2.2, rfl, upd_same, SqT.of (s1 _ _ ha), SqT.of (s1 _ _ hb), fun L t H' s2 nL nt ex eL et => ⟨rfl, ?_⟩⟩
 have s3 : Same H H' := fun y o e => s2 y o (ne_of_none e hx) (s1 y o e)
 exact k x H' s3 ⟨dx, a, L, b, t, ex, s3 _ _ ha, s1.free nL, eL, s3 _ _ hb, et⟩
theorem mk_wei {K : PySem.W.Frag} {mg : Str -> Option Value} {T : Tx K mg} {H : Hp} {Q : VK} {E : XK} {a : Addr} {f : Int × Int × Int} (ha : H a = some (T3 f)) (k : mkP T H Q (.wei f)) (x dx : Addr) (hx : H x = none) (hd : H dx = none) (_ : dx ≠ x) :
  spWInit T.c_Weight [.ref x, .ref a] (L2.upd (L2.upd H dx (.own x)) x (.ins T.c_Weight dx [])) (fun v H2 => v = V.non ∧ Q (.ref x) H2) E := by
 have s1 : Same H (L2.upd (L2.upd H dx (.own x)) x (.ins T.c_Weight dx [])) := same_new hx hd
 have s3 : Same H (L2.upd (L2.upd (L2.upd H dx (.own x)) x (.ins T.c_Weight dx [])) x (.ins T.c_Weight dx (wgtF a))) := fun y o e => by rw [upd_ne (ne_of_none e hx)]; exact s1 y o e
 exact ⟨x, dx, a, rfl, upd_same, rfl, k x _ s3 ⟨dx, a, upd_same, s3 _ _ ha⟩⟩
theorem mk_pow {K : PySem.W.Frag} {mg : Str -> Option Value} {T : Tx K mg} {H : Hp} {Q : VK} {E : XK} {a : Addr} {f : Int × Int} (ha : H a = some (T2 f)) (k : mkP T H Q (.pow f)) (x dx : Addr) (hx : H x = none) (hd : H dx = none) (_ : dx ≠ x) :
  spPInit T.c_Power [.ref x, .ref a] (L2.upd (L2.upd H dx (.own x)) x (.ins T.c_Power dx [])) (fun v H2 => v = V.non ∧ Q (.ref x) H2) E := by
 have s1 : Same H (L2.upd (L2.upd H dx (.own x)) x (.ins T.c_Power dx [])) := same_new hx hd
 have s3 : Same H (L2.upd (L2.upd (L2.upd H dx (.own x)) x (.ins T.c_Power dx [])) x (.ins T.c_Power dx (powF a))) := fun y o e => by rw [upd_ne (ne_of_none e hx)]; exact s1 y o e
 exact ⟨x, dx, a, rfl, upd_same, rfl, k x _ s3 ⟨dx, a, upd_same, s3 _ _ ha⟩⟩
theorem mk_gro {K : PySem.W.Frag} {mg : Str -> Option Value} {T : Tx K mg} {H : Hp} {Q : VK} {E : XK} {a : Addr} {f : Int × Int} (ha : H a = some (T2 f)) (k : mkP T H Q (.gro f)) (x dx : Addr) (hx : H x = none) (hd : H dx = none) (_ : dx ≠ x) :
  spPInit T.c_Growth [.ref x, .ref a] (L2.upd (L2.upd H dx (.own x)) x (.ins T.c_Growth dx [])) (fun v H2 => v = V.non ∧ Q (.ref x) H2) E := by
 have s1 : Same H (L2.upd (L2.upd H dx (.own x)) x (.ins T.c_Growth dx [])) := same_new hx hd
 have s3 : Same H (L2.upd (L2.upd (L2.upd H dx (.own x)) x (.ins T.c_Growth dx [])) x (.ins T.c_Growth dx (powF a))) := fun y o e => by rw [upd_ne (ne_of_none e hx)]; exact s1 y o e
 exact ⟨x, dx, a, rfl, upd_same, rfl, k x _ s3 ⟨dx, a, upd_same, s3 _ _ ha⟩⟩
structure Pts (H : Hp) (rs : List Addr) (ps : List Prt) : Prop where
 len : rs.length = ps.length
 get : ∀ (i : Nat) (r : Addr) (p : Prt), rs[i]? = some r -> ps[i]? = some p -> PtAt H r p
structure Pcs {K : PySem.W.Frag} {mg : Str -> Option Value} (T : Tx K mg) (H0 H : Hp) (qs : List Addr) (ps : List Prt) : Prop where
 len : qs.length = ps.length
 get : ∀ (i : Nat) (q : Addr) (p : Prt), qs[i]? = some q -> ps[i]? = some p -> PcAt T H0 H q p
theorem Pts.kt {H H' : Hp} {rs : List Addr} {ps : List Prt} (h : Pts H rs ps) (k : ∀ a xs, H a = some (.tup xs) -> H' a = some (.tup xs)) : Pts H' rs ps := ⟨h.len, fun i r p e1 e2 => (h.get i r p e1 e2).kt k⟩
theorem Pts.on {H H' : Hp} {rs : List Addr} {ps : List Prt} (h : Pts H rs ps) (s : Same H H') : Pts H' rs ps := h.kt fun a xs e => s a _ e
theorem Pcs.kp {K : PySem.W.Frag} {mg : Str -> Option Value} {T : Tx K mg} {H0 H H' : Hp} {qs : List Addr} {ps : List Prt} (h : Pcs T H0 H qs ps) (k : Kp H0 H H') : Pcs T H0 H' qs ps := ⟨h.len, fun i r p e1 e2 => (h.get i r p e1 e2).kp k⟩
theorem Pcs.from {K : PySem.W.Frag} {mg : Str -> Option Value} {T : Tx K mg} {H00 H0 H : Hp} {qs : List Addr} {ps : List Prt} (h : Pcs T H0 H qs ps) (s : ∀ y, H0 y = none -> H00 y = none) : Pcs T H00 H qs ps := ⟨h.len, fun i r p e1 e2 => (h.get i r p e1 e2).fr s⟩
theorem Pcs.snoc {K : PySem.W.Frag} {mg : Str -> Option Value} {T : Tx K mg} {H0 H : Hp} {qs : List Addr} {ps : List Prt} {q : Addr} {p : Prt} (h : Pcs T H0 H qs ps) (a : PcAt T H0 H q p) : Pcs T H0 H (qs ++ [q]) (ps ++ [p]) := by
 refine ⟨by simp [h.len], fun i r p' e1 e2 => ?_⟩
 by_cases hi : i < qs.length
 ·rw [List.getElem?_append_left hi] at e1
  rw [List.getElem?_append_left (by rw [← h.len]; exact hi)] at e2
  exact h.get i r p' e1 e2
 ·rw [List.getElem?_append_right (by omega)] at e1
  rw [List.getElem?_append_right (by have := h.len; omega), ← h.len] at e2
  obtain ⟨j, hj⟩ : ∃ j, i - qs.length = j := ⟨_, rfl⟩
  rw [hj] at e1 e2
  cases j with
  | zero => cases Option.some.inj e1; cases Option.some.inj e2; exact a
  | succ j => simp at e1
theorem Pts.snoc {H : Hp} {rs : List Addr} {ps : List Prt} {r : Addr} {p : Prt} (h : Pts H rs ps) (a : PtAt H r p) : Pts H (rs ++ [r]) (ps ++ [p]) := by
 refine ⟨by simp [h.len], fun i r' p' e1 e2 => ?_⟩
 by_cases hi : i < rs.length
 ·rw [List.getElem?_append_left hi] at e1
  rw [List.getElem?_append_left (by rw [← h.len]; exact hi)] at e2
  exact h.get i r' p' e1 e2
 ·rw [List.getElem?_append_right (by omega)] at e1
  rw [List.getElem?_append_right (by have := h.len; omega), ← h.len] at e2
  obtain ⟨j, hj⟩ : ∃ j, i - rs.length = j := ⟨_, rfl⟩
  rw [hj] at e1 e2
  cases j with
  | zero => cases Option.some.inj e1; cases Option.some.inj e2; exact a
  | succ j => simp at e1
def trmF (P1 P2 : Addr) : List (Str × V) := [(Str.ofString "parts", .ref P1), (Str.ofString "pieces", .ref P2)]
def TermAt {K : PySem.W.Frag} {mg : Str -> Option Value} (T : Tx K mg) (H0 H : Hp) (x : Addr) (rs : List Addr) (ps : List Prt) : Prop := ∃ dx P1 P2 qs, H x = some (.ins T.c_Term dx (trmF P1 P2)) ∧ H0 P1 = none ∧ H P1 = some (.lst (rs.map V.ref)) ∧ H0 P2 = none ∧ H P2 = some (.lst (qs.map V.ref)) ∧ Pcs T H0 H qs ps
inductive Gp where
 | pt (p : Prt)
 | wd (k : Nat) (b : Bool)
def wdS (k : Nat) : Str := ([Str.ofString "", Str.ofString "chose", Str.ofString "weights", Str.ofString "power ", Str.ofString "Growth", Str.ofString "sum", Str.ofString "floor"]).getD k (Str.ofString "")
def GAt (H : Hp) (r : Addr) : Gp -> Prop
 | .pt p => PtAt H r p
 | .wd k true => k < 7 ∧ ∃ a, H r = some (.tup [.str (wdS k), .ref a]) ∧ H a = some (T3 (1, 0, 0))
 | .wd k false => k < 7 ∧ ∃ a, H r = some (.tup [.str (wdS k), .ref a]) ∧ H a = some (T2 (1, 2))
def GBad : Gp -> Prop
 | .pt (.cho h l) => ¬ ChoOk h l
 | .pt (.wei _) => False
 | .pt (.pow f) => f.1 = 0
 | .pt (.gro f) => f.1 = 0
 | .wd k _ => k < 7
def GOk : Gp -> Prop
 | .pt p => PrtOk p
 | .wd _ _ => False
theorem wd_ne : ∀ k < 7, wdS k ≠ Str.ofString "choose" ∧ wdS k ≠ Str.ofString "weight" ∧ wdS k ≠ Str.ofString "power" ∧ wdS k ≠ Str.ofString "growth" := by decide +kernel
theorem GAt.kt {H H' : Hp} {r : Addr} {g : Gp} (h : GAt H r g) (k : ∀ a xs, H a = some (.tup xs) -> H' a = some (.tup xs)) : GAt H' r g := by
 match g, h with
 | .pt p, h => exact PtAt.kt h k
 | .wd _ true, ⟨a0, a, h1, h2⟩ => exact ⟨a0, a, k _ _ h1, k _ _ h2⟩
 | .wd _ false, ⟨a0, a, h1, h2⟩ => exact ⟨a0, a, k _ _ h1, k _ _ h2⟩
theorem GAt.on {H H' : Hp} {r : Addr} {g : Gp} (h : GAt H r g) (s : Same H H') : GAt H' r g := h.kt fun a xs e => s a _ e
structure Gts (H : Hp) (rs : List Addr) (gs : List Gp) : Prop where
 len : rs.length = gs.length
 get : ∀ (i : Nat) (r : Addr) (g : Gp), rs[i]? = some r -> gs[i]? = some g -> GAt H r g
theorem Gts.kt {H H' : Hp} {rs : List Addr} {gs : List Gp} (h : Gts H rs gs) (k : ∀ a xs, H a = some (.tup xs) -> H' a = some (.tup xs)) : Gts H' rs gs := ⟨h.len, fun i r p e1 e2 => (h.get i r p e1 e2).kt k⟩
theorem Gts.on {H H' : Hp} {rs : List Addr} {gs : List Gp} (h : Gts H rs gs) (s : Same H H') : Gts H' rs gs := h.kt fun a xs e => s a _ e
theorem Pts.g {H : Hp} {rs : List Addr} {ps : List Prt} (h : Pts H rs ps) : Gts H rs (ps.map .pt) := ⟨by rw [List.length_map]; exact h.len, fun i r g e1 e2 => by
 rw [List.getElem?_map] at e2
 obtain ⟨p, hp, rfl⟩ := Option.map_eq_some_iff.mp e2
 exact h.get i r p e1 hp⟩
theorem Gts.app {H : Hp} {rs us : List Addr} {gs vs : List Gp} (h : Gts H rs gs) (k : Gts H us vs) : Gts H (rs ++ us) (gs ++ vs) := by
 refine ⟨by simp [h.len, k.len], fun i r p e1 e2 => ?_⟩
 by_cases hi : i < rs.length
 ·rw [List.getElem?_append_left hi] at e1
  rw [List.getElem?_append_left (by rw [← h.len]; exact hi)] at e2
  exact h.get i r p e1 e2
 ·rw [List.getElem?_append_right (by omega)] at e1
  rw [List.getElem?_append_right (by have := h.len; omega), ← h.len] at e2
  exact k.get _ r p e1 e2
theorem Gts.cons {H : Hp} {r : Addr} {g : Gp} {rs : List Addr} {gs : List Gp} (a : GAt H r g) (h : Gts H rs gs) : Gts H (r :: rs) (g :: gs) := ⟨by simp [h.len], fun i r' g' e1 e2 => by
 cases i with
 | zero => cases Option.some.inj e1; cases Option.some.inj e2; exact a
 | succ i => exact h.get i r' g' e1 e2⟩
theorem Gts.take {H : Hp} {rs : List Addr} {gs : List Gp} (h : Gts H rs gs) (k : Nat) : Gts H (rs.take k) (gs.take k) := ⟨by simp [h.len], fun i r g e1 e2 => by
 have hi : i < k := by have := (List.getElem?_eq_some_iff.mp e1).1; rw [List.length_take] at this; omega
 rw [List.getElem?_take_of_lt hi] at e1 e2
 exact h.get i r g e1 e2⟩
theorem Gts.drop {H : Hp} {rs : List Addr} {gs : List Gp} (h : Gts H rs gs) (k : Nat) : Gts H (rs.drop k) (gs.drop k) := ⟨by simp [h.len], fun i r g e1 e2 => by
 rw [List.getElem?_drop] at e1 e2
 exact h.get _ r g e1 e2⟩
theorem Gts.nil {H : Hp} : Gts H [] [] := ⟨rfl, fun i r g e => by simp at e⟩
def spPiece {K : PySem.W.Frag} {mg : Str -> Option Value} (T : Tx K mg) : Sp := fun vs H Q E => ∃ (r : Addr) (g : Gp), vs = [.ref r] ∧ GAt H r g ∧ ((∃ p, g = .pt p ∧ PrtOk p ∧ mkP T H Q p) ∨ (GBad g ∧ ∀ H', Same H H' -> E (.ref T.c_NoTerm) none H'))
theorem ok_piece_of {P : Program} {w : World} {K : PySem.W.Frag} {mg : Str -> Option Value} {base : Heap} (T : Tx K mg) : FnOk P w K mg base (CXE P w) 4 T.a_piece_of T.fd_piece_of ["part"] (spPiece T) := by
 refine T.F_piece_of.okE sc_piece_of (fun vs H Q E h => ?_) (fun cdv A outer s H vs Q E hr h => ?_)
 ·obtain ⟨r, g, rfl, _⟩ := h
  rfl
 obtain ⟨r, g, rfl, hg, hk⟩ := h
 refine ⟨_, ((pss_cons (ps_if (PT.nox (pt_cmpR op_eq (pe_ix ix_tup (pv 0) pe_int (fun _ _ => rfl)) pe_str (nomark _))) (pss_cons (ps_expr (pe_call (FnOk.mono (ok_check_choose T) (by decide)) hr rfl T.m_check_choose T.F_check_choose.kp T.b_check_choose .nil passE (pa_cons (pe_ix ix_tup (pv 0) pe_int (fun _ _ => rfl)) (pa_cons (pe_ix ix_tup (pv 0) pe_int (fun _ _ => rfl)) pa_nil))))
  (pss_one (PS.nox (ps_ret (pe_make T.mk_Choose (FnOk.mono (ok_Choose___init__ T) (by decide)) hr rfl T.mc_Choose T.b_Choose___init__ .nil pass0 (pa_cons (pe_ix ix_tup (pv 0) pe_int (fun _ _ => rfl)) (pa_cons (pe_ix ix_tup (pv 0) pe_int (fun _ _ => rfl)) pa_nil))))))) pss_nil)
  (pss_cons (PS.nox (ps_if (pt_cmpR op_eq (pe_ix ix_tup (pv 0) pe_int (fun _ _ => rfl)) pe_str (nomark _)) (pss_one (ps_ret (pe_make T.mk_Weight (FnOk.mono (ok_Weight___init__ T) (by decide)) hr rfl T.mc_Weight T.b_Weight___init__ .nil pass0 (pa_cons (pe_ix ix_tup (pv 0) pe_int (fun _ _ => rfl)) pa_nil)))) pss_nil))
  (pss_cons (ps_if (PT.nox (pt_cmpR op_eq (pe_ix ix_tup (pv 0) pe_int (fun _ _ => rfl)) pe_str (nomark _))) (pss_cons (ps_expr (pe_call (FnOk.mono (ok_check_base T) (by decide)) hr rfl T.m_check_base T.F_check_base.kp T.b_check_base .nil passE (pa_cons (pe_ix ix_tup (pv 0) pe_int (fun _ _ => rfl)) pa_nil)))
  (pss_one (PS.nox (ps_ret (pe_make T.mk_Power (FnOk.mono (ok_Power___init__ T) (by decide)) hr rfl T.mc_Power T.b_Power___init__ .nil pass0 (pa_cons (pe_ix ix_tup (pv 0) pe_int (fun _ _ => rfl)) pa_nil)))))) pss_nil)
  (pss_cons (ps_if (PT.nox (pt_cmpR op_eq (pe_ix ix_tup (pv 0) pe_int (fun _ _ => rfl)) pe_str (nomark _))) (pss_cons (ps_expr (pe_call (FnOk.mono (ok_check_base T) (by decide)) hr rfl T.m_check_base T.F_check_base.kp T.b_check_base .nil passE (pa_cons (pe_ix ix_tup (pv 0) pe_int (fun _ _ => rfl)) pa_nil)))
  (pss_one (PS.nox (ps_ret (pe_make T.mk_Growth (FnOk.mono (ok_Growth___init__ T) (by decide)) hr rfl T.mc_Growth T.b_Growth___init__ .nil pass0 (pa_cons (pe_ix ix_tup (pv 0) pe_int (fun _ _ => rfl)) pa_nil)))))) pss_nil)
  (pss_one (ps_raise rfl throwE rfl T.mc_NoTerm T.xc_NoTerm (pa_cons pe_str pa_nil)))))))), ?_⟩
 have bad : GBad g -> ∀ H', Same H H' -> E (.ref T.c_NoTerm) none H' := fun z => by
  rcases hk with ⟨p, rfl, ho, _⟩ | ⟨_, k⟩
  ·exfalso
   match p, ho, z with
   | .cho h l, ho, z => exact z ho
   | .pow f, ho, z => exact ho.2.1 z
   | .gro f, ho, z => exact ho.2.1 z
  ·exact k
 have good : ∀ p, g = .pt p -> ¬ GBad g -> mkP T H Q p := fun p e n => by
  rcases hk with ⟨p', e', ho, k⟩ | ⟨z, _⟩
  ·rw [e] at e'; cases e'; exact k
  ·exact absurd z n
 clear hk
 match g, hg, bad, good with
 | .pt (.cho h l), ⟨a, b, hr', ha, hb⟩, bad, good =>
  dsimp only [a_seq]
  k_typeOf
  refine ⟨_, SqT.of hr', _, rfl, ?_⟩
  k_units
  exact ⟨_, SqT.of hr', _, rfl, _, SqT.of hr', _, rfl, a, b, h, l, rfl, SqT.of ha, SqT.of hb, fun hc H1 s1 => ⟨_, SqT.of (s1 _ _ hr'), _, rfl, _, SqT.of (s1 _ _ hr'), _, rfl, mk_cho (s1 _ _ ha) (s1 _ _ hb) ((good _ rfl (fun z => z hc)).on s1)⟩, fun hc => bad hc⟩
 | .pt (.wei f), ⟨a, hr', ha⟩, bad, good =>
  dsimp only [a_seq]
  k_typeOf
  refine ⟨_, SqT.of hr', _, rfl, ?_⟩
  k_units
  rw [if_neg (by decide)]
  refine ⟨_, SqT.of hr', _, rfl, ?_⟩
  k_units
  exact ⟨_, SqT.of hr', _, rfl, mk_wei ha (good _ rfl id)⟩
 | .pt (.pow f), ⟨a, hr', ha⟩, bad, good =>
  dsimp only [a_seq]
  k_typeOf
  refine ⟨_, SqT.of hr', _, rfl, ?_⟩
  k_units
  rw [if_neg (by decide)]
  refine ⟨_, SqT.of hr', _, rfl, ?_⟩
  k_units
  rw [if_neg (by decide)]
  refine ⟨_, SqT.of hr', _, rfl, ?_⟩
  k_units
  exact ⟨_, SqT.of hr', _, rfl, a, f, rfl, SqT.of ha, fun f0 => ⟨_, SqT.of hr', _, rfl, mk_pow ha (good _ rfl f0)⟩, fun f0 => bad f0 H (Same.refl _)⟩
 | .pt (.gro f), ⟨a, hr', ha⟩, bad, good =>
  dsimp only [a_seq]
  k_typeOf
  refine ⟨_, SqT.of hr', _, rfl, ?_⟩
  k_units
  rw [if_neg (by decide)]
  refine ⟨_, SqT.of hr', _, rfl, ?_⟩
  k_units
  rw [if_neg (by decide)]
  refine ⟨_, SqT.of hr', _, rfl, ?_⟩
  k_units
  rw [if_neg (by decide)]
  refine ⟨_, SqT.of hr', _, rfl, ?_⟩
  k_units
  exact ⟨_, SqT.of hr', _, rfl, a, f, rfl, SqT.of ha, fun f0 => ⟨_, SqT.of hr', _, rfl, mk_gro ha (good _ rfl f0)⟩, fun f0 => bad f0 H (Same.refl _)⟩
 | .wd k b, hg, bad, good =>
  obtain ⟨hk, a, hr'⟩ : k < 7 ∧ ∃ a, H r = some (.tup [.str (wdS k), .ref a]) := by
   match b, hg with
   | true, ⟨h0, a, h1, _⟩ => exact ⟨h0, a, h1⟩
   | false, ⟨h0, a, h1, _⟩ => exact ⟨h0, a, h1⟩
  obtain ⟨n1, n2, n3, n4⟩ := wd_ne k hk
  dsimp only [a_seq]
  k_typeOf
  refine ⟨_, SqT.of hr', _, rfl, ?_⟩
  k_units
  rw [if_neg n1]
  refine ⟨_, SqT.of hr', _, rfl, ?_⟩
  k_units
  rw [if_neg n2]
  refine ⟨_, SqT.of hr', _, rfl, ?_⟩
  k_units
  rw [if_neg n3]
  refine ⟨_, SqT.of hr', _, rfl, ?_⟩
  k_units
  rw [if_neg n4]
  exact ⟨by decide, bad hk H (Same.refl _)⟩
def spTInit {K : PySem.W.Frag} {mg : Str -> Option Value} (T : Tx K mg) : Sp := fun vs H Q E => ∃ (x dx A : Addr) (rs : List Addr) (gs : List Gp), vs = [.ref x, .ref A] ∧ H x = some (.ins T.c_Term dx []) ∧ H A = some (.lst (rs.map V.ref)) ∧ Gts H rs gs ∧
 ((∃ ps : List Prt, gs = ps.map Gp.pt ∧ (∀ p ∈ ps, PrtOk p) ∧ 1 <= ps.length ∧ ps.length <= 6 ∧
   ∀ (P1 P2 : Addr) (qs : List Addr) (H' : Hp), (∀ y o, y ≠ x -> H y = some o -> H' y = some o) -> H P1 = none -> H P2 = none -> H' x = some (.ins T.c_Term dx (trmF P1 P2)) -> H' P1 = some (.lst (rs.map V.ref)) -> H' P2 = some (.lst (qs.map V.ref)) -> Pcs T H H' qs ps -> Q .non H') ∨
  ((gs.length = 0 ∨ 6 < gs.length ∨ ((∀ g ∈ gs, GOk g ∨ GBad g) ∧ ∃ g ∈ gs, GBad g)) ∧ ∀ H', (∀ y o, y ≠ x -> H y = some o -> H' y = some o) -> E (.ref T.c_NoTerm) none H'))
theorem ok_bad {g : Gp} (h : GOk g) : ¬ GBad g := fun z => by
 match g, h, z with
 | .pt (.cho h l), ho, z => exact z ho
 | .pt (.pow f), ho, z => exact ho.2.1 z
 | .pt (.gro f), ho, z => exact ho.2.1 z
theorem ok_Term___init__ {P : Program} {w : World} {K : PySem.W.Frag} {mg : Str -> Option Value} {base : Heap} (T : Tx K mg) : FnOk P w K mg base (CXE P w) 5 T.a_Term___init__ T.fd_Term___init__ ["self", "parts"] (spTInit T) := by
 refine T.F_Term___init__.okE sc_Term___init__ (fun vs H Q E h => ?_) (fun cdv A outer s H vs Q E hr h => ?_)
 ·obtain ⟨x, dx, A, rs, gs, rfl, _⟩ := h
  rfl
 obtain ⟨x, dx, A, rs, gs, rfl, hx, hA, hG, hk⟩ := h
 refine ⟨_, ((pss_cons (ps_if (PT.nox (PW.pt (pw_or (pt_cmpR op_eq (pe_callB call_len_seq rfl T.z_len bt_len (pa_cons (pv 1) pa_nil)) pe_int (nomark _)) (pw_or1 (pt_cmpR op_gt (pe_callB call_len_seq rfl T.z_len bt_len (pa_cons (pv 1) pa_nil)) (pe_glob (v := .int 6) rfl T.g_MOST_PARTS.2 ⟨_, rfl⟩) (nomark _)))))) (pss_one (ps_raise rfl throwE rfl T.mc_NoTerm T.xc_NoTerm (pa_cons (pe_fst2 (pe_glob (v := .int 6) rfl T.g_MOST_PARTS.2 ⟨_, rfl⟩)) pa_nil))) pss_nil)
  (pss_cons (PS.nox (ps_fld (pv 0) (pe_callTy call_list_of rfl T.z_list bt_list (pa_cons (pv 1) pa_nil)) rfl))
  (pss_one (ps_fld (pv 0) (pe_lcompE hr.hd (blkok rfl sub_nil fv_nil) (pi_list (pv 1)) (fun _ _ _ _ => (pe_call (FnOk.mono (ok_piece_of T) (by decide)) hr rfl T.m_piece_of T.F_piece_of.kp T.b_piece_of .nil passB (pa_cons (pv 0) pa_nil)))) rfl))))), ?_⟩
 k_units
 have lr : (rs.map V.ref).length = gs.length := by rw [List.length_map]; exact hG.len
 refine ⟨_, .inl (SqL.of hA), ?_⟩
 rw [lr]
 refine ite2 (fun z => ?_) (fun z0 => ?_)
 ·rcases hk with ⟨ps, rfl, _, l1, _⟩ | ⟨_, ke⟩
  ·rw [List.length_map] at z; omega
  ·exact ⟨by decide, by decide, by decide +kernel, by decide +kernel, by decide, ke H fun _ _ _ e => e⟩
 refine ⟨_, .inl (SqL.of hA), ?_⟩
 rw [lr]
 refine ite2 (fun z => ?_) (fun z6 => ?_)
 ·rcases hk with ⟨ps, rfl, _, _, l6, _⟩ | ⟨_, ke⟩
  ·rw [List.length_map] at z; omega
  ·exact ⟨by decide, by decide, by decide +kernel, by decide +kernel, by decide, ke H fun _ _ _ e => e⟩
 refine ⟨_, .inl (SqL.of hA), fun P1 nP1 => ?_⟩
 have u1 := same_upd nP1 (.lst (rs.map V.ref))
 refine ⟨T.c_Term, dx, [], u1 _ _ hx, T.cl_Term, T.na_Term_parts, by decide, ?_⟩
 have pf1 : putF (Str.ofString "parts") (V.ref P1) [] = [(Str.ofString "parts", V.ref P1)] := rfl
 rw [pf1]
 have xA : A ≠ x := ne_of hA hx (fun z => nomatch z)
 have xP : P1 ≠ x := fun z => by rw [z, hx] at nP1; cases nP1
 obtain ⟨G, hG'⟩ : ∃ G, G = L2.upd (L2.upd H P1 (.lst (rs.map V.ref))) x (.ins T.c_Term dx [(Str.ofString "parts", V.ref P1)]) := ⟨_, rfl⟩
 rw [← hG']
 have gx : G x = some (.ins T.c_Term dx [(Str.ofString "parts", V.ref P1)]) := by rw [hG']; exact upd_same
 have gk : ∀ y o, y ≠ x -> H y = some o -> G y = some o := fun y o hy e => by rw [hG', upd_ne hy]; exact u1 _ _ e
 have gP : G P1 = some (.lst (rs.map V.ref)) := by rw [hG', upd_ne xP, upd_same]
 have gn : ∀ y, G y = none -> H y = none := fun y e => by
  by_cases hy : y = x
  ·rw [hy, gx] at e; cases e
  ·rw [hG', upd_ne hy] at e; exact u1.free e
 have gGt : Gts G rs gs := hG.kt fun a xs e => gk a _ (ne_of e hx (fun z => nomatch z)) e
 clear hG'
 refine ⟨⟨_, SqL.of (gk _ _ xA hA)⟩, fun D nD => ?_⟩
 obtain ⟨G1, hG1⟩ : ∃ G1, G1 = L2.upd G D (.lst []) := ⟨_, rfl⟩
 have g1D : G1 D = some (.lst []) := by rw [hG1]; exact upd_same
 have g1n : ∀ y, G1 y = none -> G y = none := fun y e => by rw [hG1] at e; exact (upd_none e).2
 have xD : D ≠ x := fun z => by rw [z, gx] at nD; cases nD
 have lg6 : gs.length <= 6 := by omega
 rcases hk with ⟨ps, rfl, hO, l1, l6, k⟩ | ⟨hb, ke⟩
 ·obtain ⟨Pc, hPc⟩ : ∃ Pc : Nat -> Hp -> Prop, ∀ j Hx, Pc j Hx ↔ ∃ qs : List Addr, Hx D = some (.lst (qs.map V.ref)) ∧ Pcs T G1 Hx qs (ps.take j) ∧ Same G Hx := ⟨_, fun _ _ => Iff.rfl⟩
  refine cl_list (xs := rs.map V.ref) Pc ((hPc _ _).mpr ⟨[], upd_same, ⟨by simp, fun i q p e => by simp at e⟩, same_upd nD _⟩) (fun i Hx _ z => by obtain ⟨_, _, _, z⟩ := (hPc i Hx).mp z; exact z.seq (SqL.of (gk _ _ xA hA))) ?_ ?_
  ·intro j v Hx hv hc
   obtain ⟨qs, k1, k2, k3⟩ := (hPc _ _).mp hc
   rw [List.getElem?_map] at hv
   obtain ⟨r, hr1, rfl⟩ := Option.map_eq_some_iff.mp hv
   have hj := (List.getElem?_eq_some_iff.mp hr1).1
   have hj2 : j < ps.length := by have := hG.len; rw [List.length_map] at this; omega
   (iterate 3 (k_units; (try simp only [bst, Option.getD_some])); k_units)
   refine ⟨r, .pt ps[j], rfl, (gGt.get j r _ hr1 (by rw [List.getElem?_map, List.getElem?_eq_getElem hj2]; rfl)).on k3, .inl ⟨_, rfl, hO _ (List.getElem_mem hj2), fun q H' s' hq => ?_⟩⟩
   have lq := k2.len
   rw [List.length_take] at lq
   refine ⟨_, s' _ _ k1, by rw [List.length_map]; exact small1000 (by omega), (hPc _ _).mpr ⟨qs ++ [q], by rw [upd_same]; simp, ?_, (k3.trans s').more nD⟩⟩
   have kq : Kp G1 Hx (L2.upd H' D (.lst (qs.map V.ref ++ [V.ref q]))) := kpD s' (by rw [g1D]; simp) k1
   rw [← List.take_append_getElem hj2]
   refine (k2.kp kq).snoc ?_
   have hq1 : PcAt T Hx (L2.upd H' D (.lst (qs.map V.ref ++ [V.ref q]))) q ps[j] := hq.kp (kpD (Same.refl H') (by rw [k1]; simp) (s' _ _ k1))
   exact hq1.fr fun y e => by
    by_cases hy : y = D
    ·rw [hy, k1] at e; cases e
    ·rw [hG1, upd_ne hy]; exact k3.free e
  intro Hx hc
  obtain ⟨qs, k1, k2, k3⟩ := (hPc _ _).mp hc
  rw [List.length_map, hG.len, List.length_map, List.take_of_length_le (Nat.le_refl _)] at k2
  refine ⟨T.c_Term, dx, _, k3 _ _ gx, T.cl_Term, T.na_Term_pieces, by show 1 < 1000; decide, ?_⟩
  have pf2 : putF (Str.ofString "pieces") (V.ref D) [(Str.ofString "parts", V.ref P1)] = trmF P1 D := rfl
  rw [pf2]
  refine k P1 D qs _ (fun y o hy e => by rw [upd_ne hy]; exact k3 _ _ (gk y o hy e)) nP1 (gn _ nD) upd_same (by rw [upd_ne xP]; exact k3 _ _ gP) (by rw [upd_ne xD]; exact k1) ?_
  refine (k2.kp fun a o e n => ?_).from fun y e => gn _ (g1n _ e)
  have : a ≠ x := fun z => by
   subst z
   rw [k3 _ _ gx] at e
   cases e
   cases n with
   | ins z =>
    have z' : some (V.ref P1) = none := z
    cases z'
  rw [upd_ne this]; exact e
 ·obtain ⟨hall, gb, hgb, hbad⟩ : (∀ g ∈ gs, GOk g ∨ GBad g) ∧ ∃ g ∈ gs, GBad g := by
   rcases hb with z | z | z
   ·omega
   ·omega
   ·exact z
  obtain ⟨Pc, hPc⟩ : ∃ Pc : Nat -> Hp -> Prop, ∀ j Hx, Pc j Hx ↔ ∃ us : List V, Hx D = some (.lst us) ∧ us.length = j ∧ (∀ g ∈ gs.take j, GOk g) ∧ Same G Hx := ⟨_, fun _ _ => Iff.rfl⟩
  refine cl_list (xs := rs.map V.ref) Pc ((hPc _ _).mpr ⟨[], upd_same, rfl, fun g hg => by simp at hg, same_upd nD _⟩) (fun i Hx _ z => by obtain ⟨_, _, _, _, z⟩ := (hPc i Hx).mp z; exact z.seq (SqL.of (gk _ _ xA hA))) ?_ ?_
  ·intro j v Hx hv hc
   obtain ⟨us, k1, k2, k3, k4⟩ := (hPc _ _).mp hc
   rw [List.getElem?_map] at hv
   obtain ⟨r, hr1, rfl⟩ := Option.map_eq_some_iff.mp hv
   have hj := (List.getElem?_eq_some_iff.mp hr1).1
   have hj2 : j < gs.length := by have := hG.len; omega
   (iterate 3 (k_units; (try simp only [bst, Option.getD_some])); k_units)
   refine ⟨r, gs[j], rfl, (gGt.get j r _ hr1 (List.getElem?_eq_getElem hj2)).on k4, ?_⟩
   rcases hall _ (List.getElem_mem hj2) with hok | hbd
   ·have hok' := hok
    obtain ⟨p, hp⟩ : ∃ p, gs[j] = .pt p := by
     cases e : gs[j] with
     | pt p => exact ⟨p, rfl⟩
     | wd k b => rw [e] at hok; exact hok.elim
    rw [hp] at hok'
    refine .inl ⟨p, hp, hok', fun q H' s' hq => ⟨_, s' _ _ k1, small1000 (by omega), (hPc _ _).mpr ⟨us ++ [V.ref q], upd_same, by simp [k2], fun g hg => ?_, (k4.trans s').more nD⟩⟩⟩
    rw [← List.take_append_getElem hj2] at hg
    rcases List.mem_append.mp hg with z | z
    ·exact k3 g z
    ·rw [List.mem_singleton.mp z]; exact hok
   ·exact .inr ⟨hbd, fun H' s' => ke H' fun y o hy e => s' _ _ (k4 _ _ (gk y o hy e))⟩
  intro Hx hc
  obtain ⟨us, k1, k2, k3, k4⟩ := (hPc _ _).mp hc
  rw [List.length_map, hG.len, List.take_of_length_le (Nat.le_refl _)] at k3
  exact absurd hbad (ok_bad (k3 gb hgb))
def spTold {K : PySem.W.Frag} {mg : Str -> Option Value} (T : Tx K mg) : Sp := fun vs H Q _ => ∃ (x : Addr) (H0 : Hp) (rs : List Addr) (ps : List Prt), vs = [.ref x] ∧ TermAt T H0 H x rs ps ∧ newL H Q (rs.map V.ref)
theorem ok_Term_told {P : Program} {w : World} {K : PySem.W.Frag} {mg : Str -> Option Value} {base : Heap} (T : Tx K mg) : FnOk P w K mg base CX0 1 T.a_Term_told T.fd_Term_told ["self"] (spTold T) := by
 refine T.F_Term_told.ok sc_Term_told (fun vs H Q E h => ?_) (fun cdv A outer s H vs Q E hr h => ?_)
 ·obtain ⟨x, H0, rs, ps, rfl, _⟩ := h
  rfl
 obtain ⟨x, H0, rs, ps, rfl, ⟨dx, P1, P2, qs, h1, h2, h3, h4, h5, h6⟩, k⟩ := h
 refine ⟨_, ((pss_one (ps_ret (pe_callTy call_list_of rfl T.z_list bt_list (pa_cons (pe_fld (pv 0) rfl) pa_nil))))), ?_⟩
 k_units
 exact ⟨_, _, _, h1, T.cl_Term, T.na_Term_parts, _, rfl, P1, rfl, _, .inl (SqL.of h3), fun r nr => k r _ (same_upd nr _) nr upd_same⟩
def spIs6 (d : Addr) : Sp := fun vs H Q _ => ∃ e : Addr, vs = [.ref e, .int 6] ∧ H e = some (IsExc e d) ∧ ∀ H', Same H H' -> Q (.bl true) H'
theorem ok__law_is {P : Program} {w : World} {K : PySem.W.Frag} {mg : Str -> Option Value} {base : Heap} (T : Tx K mg) : FnOk P w K mg base CX0 2 T.a__law_is T.fd__law_is ["_law_caught", "_law_at"] (spIs6 T.c_NoTerm) := by
 refine T.F__law_is.ok sc__law_is (fun vs H Q E h => ?_) (fun cdv A outer s H vs Q E hr h => ?_)
 ·obtain ⟨e, rfl, _⟩ := h
  rfl
 obtain ⟨e, rfl, hE, q⟩ := h
 have X := T.ec_NoTerm
 have h0 := T.ki_NoTerm_NoRule
 have h1 := T.ki_NoTerm_TooGreat
 have h2 := T.ki_NoTerm_TooFew
 have h3 := T.ki_NoTerm_NotKept
 have h4 := T.ki_NoTerm_NoNumber
 have h5 := T.ki_NoTerm_NoPlace
 have h6 := T.ki_NoTerm_NoTerm
 have h7 := T.ki_NoTerm_NoEnds
 have h8 := T.ki_NoTerm_NoLine
 have h9 := T.ki_NoTerm_NoName
 have kv := T.ki_NoTerm_ValueError
 refine ⟨_, ((pss_mid (ps_set (i := 2) sc__law_is.nd rfl (Or.inl rfl) (pe_lst (pa_cons (pe_callB call_isinstE rfl T.z_isinstance bt_isinstance (pa_cons (pv 0) (pa_cons (pe_glob (v := .ref T.c_NoRule) rfl T.mc_NoRule rfl) pa_nil))) (pa_cons (pe_callB call_isinstE rfl T.z_isinstance bt_isinstance (pa_cons (pv 0) (pa_cons (pe_glob (v := .ref T.c_TooGreat) rfl T.mc_TooGreat rfl) pa_nil))) (pa_cons (pe_callB call_isinstE rfl T.z_isinstance bt_isinstance (pa_cons (pv 0) (pa_cons (pe_glob (v := .ref T.c_TooFew) rfl T.mc_TooFew rfl) pa_nil))) pa_nil)))))
  (pss_mid (ps_set (i := 2) sc__law_is.nd rfl (Or.inl rfl) (pe_op op_cat (pv 2) (pe_lst (pa_cons (pe_callB call_isinstE rfl T.z_isinstance bt_isinstance (pa_cons (pv 0) (pa_cons (pe_glob (v := .ref T.c_NotKept) rfl T.mc_NotKept rfl) pa_nil))) (pa_cons (pe_callB call_isinstE rfl T.z_isinstance bt_isinstance (pa_cons (pv 0) (pa_cons (pe_glob (v := .ref T.c_NoNumber) rfl T.mc_NoNumber rfl) pa_nil))) (pa_cons (pe_callB call_isinstE rfl T.z_isinstance bt_isinstance (pa_cons (pv 0) (pa_cons (pe_glob (v := .ref T.c_NoPlace) rfl T.mc_NoPlace rfl) pa_nil))) pa_nil))))))
  (pss_mid (ps_set (i := 2) sc__law_is.nd rfl (Or.inl rfl) (pe_op op_cat (pv 2) (pe_lst (pa_cons (pe_callB call_isinstE rfl T.z_isinstance bt_isinstance (pa_cons (pv 0) (pa_cons (pe_glob (v := .ref T.c_NoTerm) rfl T.mc_NoTerm rfl) pa_nil))) (pa_cons (pe_callB call_isinstE rfl T.z_isinstance bt_isinstance (pa_cons (pv 0) (pa_cons (pe_glob (v := .ref T.c_NoEnds) rfl T.mc_NoEnds rfl) pa_nil))) (pa_cons (pe_callB call_isinstE rfl T.z_isinstance bt_isinstance (pa_cons (pv 0) (pa_cons (pe_glob (v := .ref T.c_NoLine) rfl T.mc_NoLine rfl) pa_nil))) pa_nil))))))
  (pss_mid (ps_set (i := 2) sc__law_is.nd rfl (Or.inl rfl) (pe_op op_cat (pv 2) (pe_lst (pa_cons (pe_callB call_isinstE rfl T.z_isinstance bt_isinstance (pa_cons (pv 0) (pa_cons (pe_glob (v := .ref T.c_NoName) rfl T.mc_NoName rfl) pa_nil))) pa_nil))))
  (pss_cons (ps_if (pt_cmpR (op_neD hr.units) (pv 2) (pe_lcomp rfl (blkok rfl (sub_cons rfl sub_nil) (fv_cons 1 "_law_at" (by decide) rfl (Or.inl rfl) (Or.inl rfl) ⟨_, rfl⟩ fv_nil)) (pi_range1 rfl T.z_range (pa_cons pe_int pa_nil)) (fun _ _ _ _ => (pe_cmpR op_eq (pv 0) (pv 1) (nomark _)))) (nomark _)) (pss_one (ps_ret pe_bl)) pss_nil)
  (pss_one (ps_ret (pe_or (pe_and (pe_cmpR op_eq (pv 1) pe_int (nomark _)) (pe_one (pe_cmpR op_isN (pv 0) pe_non (nomark _)))) (pe_one (pe_callB call_isinstE rfl T.z_isinstance bt_isinstance (pa_cons (pv 0) (pa_cons (pe_bltn (v := .ty "ValueError") rfl T.z_ValueError bt_ValueError rfl) pa_nil))))))))))))), ?_⟩
 obtain ⟨M, hM⟩ : ∃ M : L2.St -> Hp -> Prop, ∀ σ Hx, M σ Hx ↔ ∃ D : Addr, σ = [some (V.ref e), some (V.int 6), some (V.ref D)] ∧ Hx D = some (.lst [V.bl false, V.bl false, V.bl false]) ∧ Same H Hx := ⟨_, fun _ _ => Iff.rfl⟩
 refine mid_of M ?_ ?_
 ·k_units
  exact ⟨_, _, rfl, hE, X, _, h0, _, _, rfl, hE, X, _, h1, _, _, rfl, hE, X, _, h2, by decide, fun D nD => (hM _ _).mpr ⟨D, rfl, upd_same, same_upd nD _⟩⟩
 intro σ G1 hm
 obtain ⟨D1, rfl, g1, w1⟩ := (hM _ _).mp hm
 clear hm hM M
 have E1 := w1 _ _ hE
 obtain ⟨M, hM⟩ : ∃ M : L2.St -> Hp -> Prop, ∀ σ Hx, M σ Hx ↔ ∃ D : Addr, σ = [some (V.ref e), some (V.int 6), some (V.ref D)] ∧ Hx D = some (.lst [V.bl false, V.bl false, V.bl false, V.bl false, V.bl false, V.bl false]) ∧ Same H Hx := ⟨_, fun _ _ => Iff.rfl⟩
 refine mid_of M ?_ ?_
 ·k_units
  refine ⟨_, _, rfl, E1, X, _, h3, _, _, rfl, E1, X, _, h4, _, _, rfl, E1, X, _, h5, by decide, fun pa na => ⟨_, same_upd na _ _ _ g1, _, upd_same, Nat.le_of_lt (small1000 (by simp)), fun D nD => (hM _ _).mpr ⟨D, rfl, upd_same, w1.trans ((same_upd na _).trans (same_upd nD _))⟩⟩⟩
 intro σ G2 hm
 obtain ⟨D2, rfl, g2, w2⟩ := (hM _ _).mp hm
 clear hm hM M
 have E2 := w2 _ _ hE
 obtain ⟨M, hM⟩ : ∃ M : L2.St -> Hp -> Prop, ∀ σ Hx, M σ Hx ↔ ∃ D : Addr, σ = [some (V.ref e), some (V.int 6), some (V.ref D)] ∧ Hx D = some (.lst [V.bl false, V.bl false, V.bl false, V.bl false, V.bl false, V.bl false, V.bl true, V.bl false, V.bl false]) ∧ Same H Hx := ⟨_, fun _ _ => Iff.rfl⟩
 refine mid_of M ?_ ?_
 ·k_units
  refine ⟨_, _, rfl, E2, X, _, h6, _, _, rfl, E2, X, _, h7, _, _, rfl, E2, X, _, h8, by decide, fun pa na => ⟨_, same_upd na _ _ _ g2, _, upd_same, Nat.le_of_lt (small1000 (by simp)), fun D nD => (hM _ _).mpr ⟨D, rfl, upd_same, w2.trans ((same_upd na _).trans (same_upd nD _))⟩⟩⟩
 intro σ G3 hm
 obtain ⟨D3, rfl, g3, w3⟩ := (hM _ _).mp hm
 clear hm hM M
 have E3 := w3 _ _ hE
 obtain ⟨M, hM⟩ : ∃ M : L2.St -> Hp -> Prop, ∀ σ Hx, M σ Hx ↔ ∃ D : Addr, σ = [some (V.ref e), some (V.int 6), some (V.ref D)] ∧ Hx D = some (.lst [V.bl false, V.bl false, V.bl false, V.bl false, V.bl false, V.bl false, V.bl true, V.bl false, V.bl false, V.bl false]) ∧ Same H Hx := ⟨_, fun _ _ => Iff.rfl⟩
 refine mid_of M ?_ ?_
 ·k_units
  refine ⟨_, _, rfl, E3, X, _, h9, by decide, fun pa na => ⟨_, same_upd na _ _ _ g3, _, upd_same, Nat.le_of_lt (small1000 (by simp)), fun D nD => (hM _ _).mpr ⟨D, rfl, upd_same, w3.trans ((same_upd na _).trans (same_upd nD _))⟩⟩⟩
 intro σ G4 hm
 obtain ⟨D4, rfl, g4, w4⟩ := (hM _ _).mp hm
 clear hm hM M
 k_units
 refine ⟨by decide, by decide, fun D hD => ?_⟩
 obtain ⟨Pc, hPc⟩ : ∃ Pc : Nat -> Hp -> Prop, ∀ i H', Pc i H' ↔ H' D = some (.lst ((List.range i).map fun k : Nat => V.bl (decide ((k : Int) = 6)))) ∧ Same G4 H' := ⟨_, fun _ _ => Iff.rfl⟩
 refine cl_range Pc ((hPc _ _).mpr ⟨upd_same, same_upd hD _⟩) ?_ ?_
 ·intro i Hx hi hc
  obtain ⟨k1, k2⟩ := (hPc _ _).mp hc
  have e0 : (0 : Int) + (i : Int) = (i : Int) := Int.zero_add _
  have hi10 : i < 10 := hi
  (iterate 3 (k_units; (try simp only [bst, e0, Option.getD_some])); k_units)
  refine ⟨_, k1, by rw [List.length_map, List.length_range]; exact small1000 (by omega), (hPc _ _).mpr ⟨?_, k2.more hD⟩⟩
  rw [upd_same, List.range_succ, List.map_append]; rfl
 intro H1 hc
 obtain ⟨k1, k2⟩ := (hPc _ _).mp hc
 have dvb : ∀ (Hx : Hp) (l : List Bool), DVs K Hx (l.map V.bl) (l.map PyData.bool) := fun Hx l => by
  induction l with
  | nil => exact .nil
  | cons x l ih => exact .cons (.bl x) ih
 have lay : ∀ l : List Bool, PyData.canLay0 (.list (l.map PyData.bool)) = true := fun l => by
  have : PyData.canLayAll0 (l.map PyData.bool) = true := by
   induction l with
   | nil => rfl
   | cons x l ih => simp [PyData.canLayAll0, PyData.canLay0, ih]
  simp [PyData.canLay0, this]
 have dep : ∀ l : List Bool, PyData.depth (.list (l.map PyData.bool)) <= 64 := fun l => by
  have : PyData.depthAll (l.map PyData.bool) = 0 := by
   induction l with
   | nil => rfl
   | cons x l ih => simp [PyData.depthAll, PyData.depth, ih]
  simp [PyData.depth, this]
 have k1' : H1 D = some (.lst (((List.range 10).map fun k : Nat => decide ((k : Int) = 6)).map V.bl)) := by rw [k1, List.map_map]; rfl
 refine ⟨_, DV.lst (SqL.of (k2 _ _ g4)) (dvb H1 [false, false, false, false, false, false, true, false, false, false]), _, DV.lst (SqL.of k1') (dvb H1 _), lay _, lay _, dep _, ?_⟩
 rw [if_neg (by decide), if_neg (by decide)]
 exact ⟨_, _, rfl, (w4.trans k2) _ _ hE, X, _, kv, q _ (w4.trans k2)⟩
def BadL (gs : List Gp) : Prop := gs.length = 0 ∨ 6 < gs.length ∨ ((∀ g ∈ gs, GOk g ∨ GBad g) ∧ ∃ g ∈ gs, GBad g)
def spRef {K : PySem.W.Frag} {mg : Str -> Option Value} (T : Tx K mg) : Sp := fun vs H Q _ => ∃ (A : Addr) (rs : List Addr) (gs : List Gp), vs = [.ref A] ∧ H A = some (.lst (rs.map V.ref)) ∧ Gts H rs gs ∧ BadL gs ∧ ∀ H', Same H H' -> Q (.bl true) H'
theorem ok__law_refused {P : Program} {w : World} {K : PySem.W.Frag} {mg : Str -> Option Value} {base : Heap} (T : Tx K mg) : FnOk P w K mg base CX0 8 T.a__law_refused T.fd__law_refused ["_law_parts_here"] (spRef T) := by
 refine T.F__law_refused.ok sc__law_refused (fun vs H Q E h => ?_) (fun cdv A outer s H vs Q E hr h => ?_)
 ·obtain ⟨A, rs, gs, rfl, _⟩ := h
  rfl
 obtain ⟨A, rs, gs, rfl, hA, hG, hB, q⟩ := h
 refine ⟨_, ((pss_cons (ps_set (i := 1) sc__law_refused.nd rfl (Or.inl rfl) pe_non)
  (pss_cons (ps_tryAs (i := 2) ⟨rfl, rfl⟩ (px_expr (px_make T.mk_Term (FnOk.mono (ok_Term___init__ T) (by decide)) hr rfl T.mc_Term T.b_Term___init__ (pa_cons (pv 0) pa_nil))) rfl T.mc_SumError sc__law_refused.nd rfl rfl (fun _ => (pss_one (ps_set (i := 1) sc__law_refused.nd rfl (Or.inl rfl) (pv 2)))))
  (pss_one (ps_ret (pe_call (FnOk.mono (ok__law_is T) (by decide)) hr rfl T.m__law_is T.F__law_is.kp T.b__law_is .nil pass0 (pa_cons (pv 1) (pa_cons pe_int pa_nil)))))))), ?_⟩
 k_units
 intro x dx nx nd ne
 have s1 : Same H (L2.upd (L2.upd H dx (.own x)) x (.ins T.c_Term dx [])) := same_new nx nd
 refine ⟨x, dx, A, rs, gs, rfl, upd_same, s1 _ _ hA, hG.on s1, .inr ⟨hB, fun H' s2 => ⟨T.c_NoTerm, rfl, T.kc_NoTerm_SumError, fun a na => ⟨a, rfl, upd_same, fun H3 s3 => ?_⟩⟩⟩⟩
 exact q H3 (fun y o e => s3 y o (same_upd na _ y o (s2 y o (ne_of_none e nx) (s1 y o e))))
theorem abs_nat (a : Int) : (if a < 0 then -a else a) = ((a.natAbs : Nat) : Int) := by split <;> omega
def spGcdL : Sp := fun vs H Q _ => ∃ a b : Int, vs = [.int a, .int b] ∧ Q (.int (Nat.gcd a.natAbs b.natAbs : Nat)) H
theorem ok__law_divisor {P : Program} {w : World} {K : PySem.W.Frag} {mg : Str -> Option Value} {base : Heap} (T : Tx K mg) : FnOk P w K mg base CX0 1 T.a__law_divisor T.fd__law_divisor ["_law_one", "_law_other"] spGcdL := by
 refine T.F__law_divisor.ok sc__law_divisor (fun vs H Q E h => ?_) (fun cdv A outer s H vs Q E hr h => ?_)
 ·obtain ⟨a, b, rfl, _⟩ := h
  rfl
 obtain ⟨a, b, rfl, q⟩ := h
 refine ⟨_, ((pss_cons (ps_set (i := 0) sc__law_divisor.nd rfl (Or.inl rfl) (pe_callB call_abs rfl T.z_abs bt_abs (pa_cons (pv 0) pa_nil)))
  (pss_cons (ps_set (i := 1) sc__law_divisor.nd rfl (Or.inl rfl) (pe_callB call_abs rfl T.z_abs bt_abs (pa_cons (pv 1) pa_nil)))
  (pss_cons (ps_while PassesOwn.never (pt_cmpR op_ne (pv 0) pe_int (nomark _)) (pss_cons (ps_set (i := 2) sc__law_divisor.nd rfl (Or.inl rfl) (pe_op op_mod (pv 1) (pv 0)))
  (pss_cons (ps_set (i := 1) sc__law_divisor.nd rfl (Or.inl rfl) (pv 0))
  (pss_one (ps_set (i := 0) sc__law_divisor.nd rfl (Or.inl rfl) (pv 2))))))
  (pss_one (ps_ret (pv 1))))))), ?_⟩
 (iterate 3 (k_units; (try simp only [abs_nat])); k_units)
 refine while_of (fun m σ H' => ∃ (x y : Nat) (r : Option V), σ = [some (.int x), some (.int y), r] ∧ H' = H ∧ m = x ∧ Nat.gcd x y = Nat.gcd a.natAbs b.natAbs) a.natAbs ⟨a.natAbs, b.natAbs, none, rfl, rfl, rfl, rfl⟩ ?_
 rintro m σ H' ⟨x, y, r, rfl, rfl, rfl, hg⟩
 k_units
 refine ite2 (fun h => ?_) (fun h => ?_)
 ·refine ⟨fun σ' H1 => σ' = [some (V.int ((y : Int) % (m : Int))), some (V.int m), some (V.int ((y : Int) % (m : Int)))] ∧ H1 = H', ?_, by omega, rfl, rfl⟩
  rintro σ' H1 ⟨rfl, rfl⟩
  refine ⟨y % m, Nat.mod_lt _ (by omega), y % m, m, _, by rw [← Int.natCast_emod], rfl, rfl, ?_⟩
  rw [← Nat.gcd_rec]; exact hg
 ·have h0 : m = 0 := by omega
  subst h0
  rw [Nat.gcd_zero_left] at hg
  rw [hg]; exact q
def cell (ns : List Int) (k : Nat) : Int := ns.getD k 0
def spCellAt (K : PySem.W.Frag) : Sp := fun vs H Q _ => ∃ (a : Addr) (ns : List Int) (k : Nat), vs = [.ref a, .int (k : Int)] ∧ SqL K H a (ns.map V.int) ∧ Q (.int (cell ns k)) H
theorem ok__law_cell_at {P : Program} {w : World} {K : PySem.W.Frag} {mg : Str -> Option Value} {base : Heap} (T : Tx K mg) : FnOk P w K mg base CX0 1 T.a__law_cell_at T.fd__law_cell_at ["_law_script", "_law_k"] (spCellAt K) := by
 refine T.F__law_cell_at.ok sc__law_cell_at (fun vs H Q E h => ?_) (fun cdv A outer s H vs Q E hr h => ?_)
 ·obtain ⟨a, ns, k, rfl, _⟩ := h
  rfl
 obtain ⟨a, ns, k, rfl, hS, q⟩ := h
 refine ⟨_, ((pss_cons (ps_if (pt_cmpR op_lt (pv 1) (pe_callB call_len_seq rfl T.z_len bt_len (pa_cons (pv 0) pa_nil)) (nomark _)) (pss_one (ps_ret (pe_ix ix_list (pv 0) (pv 1) (fun _ _ => rfl)))) pss_nil)
  (pss_one (ps_ret pe_int)))), ?_⟩
 k_units
 refine ⟨_, .inl hS, ?_⟩
 rw [List.length_map]
 unfold cell at q
 refine ite2 (fun h => ?_) (fun h => ?_)
 ·have h' : k < ns.length := by omega
  rw [List.getD_eq_getElem?_getD, List.getElem?_eq_getElem h'] at q
  exact ⟨_, hS, _, at_int h', q⟩
 ·rw [List.getD_eq_getElem?_getD, List.getElem?_eq_none (by omega)] at q
  exact q
def spNum13 : Sp := fun vs H Q _ => ∃ (c m : Int), vs = [.int c, .int m] ∧ (m = 10 ^ 60 ∨ m = 10 ^ 20) ∧ ∀ n : Int, n.natAbs < m.natAbs -> Q (.int n) H
theorem ok__law_number {P : Program} {w : World} {K : PySem.W.Frag} {mg : Str -> Option Value} {base : Heap} (T : Tx K mg) : FnOk P w K mg base CX0 1 T.a__law_number T.fd__law_number ["_law_cell", "_law_most"] spNum13 := by
 refine T.F__law_number.ok sc__law_number (fun vs H Q E h => ?_) (fun cdv A outer s H vs Q E hr h => ?_)
 ·obtain ⟨c, m, rfl, _⟩ := h
  rfl
 obtain ⟨c, m, rfl, hm, q⟩ := h
 refine ⟨_, ((pss_cons (ps_if (pt_cmpR op_eq (pe_op op_mod (pv 0) pe_int) pe_int (nomark _)) (pss_one (ps_ret (pe_op op_add (pe_op op_sub (pe_op op_mod (pe_op op_fdiv (pv 0) pe_int) (pe_op op_sub (pe_op op_mul pe_int (pv 1)) pe_int)) (pv 1)) pe_int))) pss_nil)
  (pss_cons (ps_if (pt_cmpR op_eq (pe_op op_mod (pv 0) pe_int) pe_int (nomark _)) (pss_one (ps_ret (pe_op op_sub (pe_op op_mod (pe_op op_fdiv (pv 0) pe_int) pe_int) pe_int))) pss_nil)
  (pss_one (ps_ret (pe_op op_sub (pe_op op_mod (pe_op op_fdiv (pv 0) pe_int) pe_int) pe_int)))))), ?_⟩
 k_units
 have d : CDiv c 3 := ⟨by decide, by decide⟩
 have big : 10 ^ 18 <= m.natAbs ∧ (0 : Int) < m := by rcases hm with rfl | rfl <;> decide
 refine ⟨by decide, ite2 (fun h => ?_) (fun h => ⟨by decide, ite2 (fun h2 => ?_) (fun h2 => ?_)⟩)⟩
 ·have h1 := Int.emod_nonneg (c / 3) (show (2 * m - 1 : Int) ≠ 0 by omega)
  have h2 := Int.emod_lt_of_pos (c / 3) (show (0 : Int) < 2 * m - 1 by omega)
  exact ⟨d, .inl ⟨by decide, by decide⟩, by omega, q _ (by omega)⟩
 ·exact ⟨d, by decide, q _ (by omega)⟩
 ·exact ⟨d, by decide, q _ (by omega)⟩
def mixE (n : Int) : Nat -> Int
 | 0 => n
 | k + 1 => (mixE n k).fdiv ((10 : Int) ^ Int.toNat 12)
def mixO (c k : Int) : Int := (((c + 7919 * k) % 2147483629) * ((c + 7919 * k) % 2147483629) + 16807 * ((c + 7919 * k) % 2147483629) + k) % 2147483629
def mixV (c : Int) (k : Nat) : Int := if c % 2 = 0 then mixE ((if c < 0 then -c else c) / 2) k else mixO c k * mixO c k % 2147483587
theorem mixE_nn {n : Int} (h : 0 <= n) : ∀ k, 0 <= mixE n k
 | 0 => h
 | k + 1 => Int.fdiv_nonneg (mixE_nn h k) (by decide)
theorem mixV_nn (c : Int) (k : Nat) : 0 <= mixV c k := by
 unfold mixV
 split
 ·refine mixE_nn ?_ k
  split <;> omega
 ·exact Int.emod_nonneg _ (by decide)
def spMixF : Sp := fun vs H Q _ => ∃ (c : Int) (k : Nat), vs = [.int c, .int (k : Int)] ∧ k <= 11 ∧ Q (.int (mixV c k)) H
theorem ok__law_mixed {P : Program} {w : World} {K : PySem.W.Frag} {mg : Str -> Option Value} {base : Heap} (T : Tx K mg) : FnOk P w K mg base CX0 1 T.a__law_mixed T.fd__law_mixed ["_law_cell", "_law_k"] spMixF := by
 refine T.F__law_mixed.ok sc__law_mixed (fun vs H Q E h => ?_) (fun cdv A outer s H vs Q E hr h => ?_)
 ·obtain ⟨c, k, rfl, _⟩ := h
  rfl
 obtain ⟨c, k, rfl, hk, q⟩ := h
 refine ⟨_, ((pss_cons (ps_if (pt_cmpR op_eq (pe_op op_mod (pv 0) pe_int) pe_int (nomark _)) (pss_cons (ps_set (i := 2) sc__law_mixed.nd rfl (Or.inl rfl) (pe_op op_fdiv (pe_callB call_abs rfl T.z_abs bt_abs (pa_cons (pv 0) pa_nil)) pe_int))
  (pss_cons (ps_for PassesOwn.never rfl (pi_range1 rfl T.z_range (pa_cons (pv 1) pa_nil)) (pg_name (i := 3) sc__law_mixed.nd rfl (Or.inl rfl)) (pss_one (ps_set (i := 2) sc__law_mixed.nd rfl (Or.inl rfl) (pe_op op_fdivB (pv 2) (pe_op op_pow pe_int pe_int)))))
  (pss_one (ps_ret (pv 2))))) pss_nil)
  (pss_cons (ps_set (i := 2) sc__law_mixed.nd rfl (Or.inl rfl) (pe_op op_mod (pe_op op_add (pv 0) (pe_op op_mul pe_int (pv 1))) pe_int))
  (pss_cons (ps_set (i := 2) sc__law_mixed.nd rfl (Or.inl rfl) (pe_op op_mod (pe_op op_add (pe_op op_add (pe_op op_mulZ (pv 2) (pv 2)) (pe_op op_mul pe_int (pv 2))) (pv 1)) pe_int))
  (pss_one (ps_ret (pe_op op_mod (pe_op op_mulZ (pv 2) (pv 2)) pe_int))))))), ?_⟩
 k_units
 have bd12 : ((10 : Int) ^ Int.toNat 12).natAbs < 2 ^ 9000 := Nat.lt_of_lt_of_le (show _ < 2 ^ 40 by decide) (Nat.pow_le_pow_right (by decide) (by decide))
 unfold mixV at q
 refine ⟨by decide, ite2 (fun h => ⟨⟨by decide, by decide⟩, by omega, by omega, ?_⟩) (fun h => ?_)⟩
 ·rw [if_pos h] at q
  generalize (if c < 0 then -c else c) / 2 = n0 at q ⊢
  rw [Int.toNat_natCast]
  obtain ⟨Pv, hPv⟩ : ∃ Pv : Nat -> L2.St -> Hp -> Prop, ∀ i σ H', Pv i σ H' ↔ ∃ (r3 : Option V), σ = [some (V.int c), some (V.int (k : Int)), some (V.int (mixE n0 i)), r3] ∧ H' = H := ⟨_, fun _ _ _ => Iff.rfl⟩
  refine lp_range Pv ((hPv _ _ _).mpr ⟨none, rfl, rfl⟩) ?_ ?_
  ·intro i σ H' hi hp
   obtain ⟨r3, rfl, rfl⟩ := (hPv _ _ _).mp hp
   k_units
   exact ⟨⟨by decide, by decide, by decide⟩, by decide, bd12, (hPv _ _ _).mpr ⟨_, rfl, rfl⟩⟩
  ·intro σ H' hp
   obtain ⟨r3, rfl, rfl⟩ := (hPv _ _ _).mp hp
   k_units
   exact q
 ·rw [if_neg h] at q
  unfold mixO at q
  obtain ⟨m, hm, m0, m1⟩ : ∃ m : Int, (c + 7919 * (k : Int)) % 2147483629 = m ∧ 0 <= m ∧ m < 2147483629 := ⟨_, rfl, by omega, by omega⟩
  rw [hm] at q ⊢
  obtain ⟨m', hm', m0', m1'⟩ : ∃ m' : Int, (m * m + 16807 * m + (k : Int)) % 2147483629 = m' ∧ 0 <= m' ∧ m' < 2147483629 := ⟨_, rfl, Int.emod_nonneg _ (by decide), Int.emod_lt_of_pos _ (by decide)⟩
  rw [hm'] at q ⊢
  have bm : Bd 31 m := Bd.of_lt (m := 2147483629) (by omega) (by decide)
  have bm' : Bd 31 m' := Bd.of_lt (m := 2147483629) (by omega) (by decide)
  exact ⟨.inl ⟨by decide, by decide⟩, by decide, bm.fits bm (by decide), .inl ⟨by decide, by decide⟩, by decide, bm'.fits bm' (by decide), by decide, q⟩
def spMixed : Sp := fun vs H Q _ => ∃ (c : Int) (k : Nat), vs = [.int c, .int (k : Int)] ∧ k <= 10 ∧ ∀ n : Int, 0 <= n -> Q (.int n) H
theorem ok_mixed0 {P : Program} {w : World} {K : PySem.W.Frag} {mg : Str -> Option Value} {base : Heap} (T : Tx K mg) : FnOk P w K mg base CX0 1 T.a__law_mixed T.fd__law_mixed ["_law_cell", "_law_k"] spMixed :=
 (ok__law_mixed T).imp fun _ _ _ _ ⟨c, k, h1, h2, h3⟩ => ⟨c, k, h1, by omega, h3 _ (mixV_nn c k)⟩
def byM (n c : Int) : Int := if n / 36 % 3 = 0 then 1 + c % (10 : Int) ^ Int.toNat 60 else 1 + n / 12 % 3
def byV (n c lo hi : Int) : Int := if n / 6 % 2 = 0 then lo - byM n c else hi + byM n c
def byF (n c : Int) : (Int × Int × Int) × (Int × Int × Int) :=
 if n % 6 = 0 then ((byV n c 0 3, 1, 3), (1, 1, 1))
 else if n % 6 = 1 then ((2, byV n c 0 3, 3), (1, 1, 1))
 else if n % 6 = 2 then ((2, 1, byV n c 0 9), (1, 1, 1))
 else if n % 6 = 3 then ((2, 1, 3), (byV n c (-3) 3, 1, 1))
 else if n % 6 = 4 then ((2, 1, 3), (1, byV n c (-3) 3, 1))
 else ((2, 1, 3), (1, 1, byV n c (-9) 9))
theorem byV_out (n c : Int) (lo hi : Int) (h : lo <= hi) (n0 : 0 <= n) : ¬ (lo <= byV n c lo hi ∧ byV n c lo hi <= hi) := by
 have hm : 1 <= byM n c := by
  unfold byM
  split
  ·have := Int.emod_nonneg c (show (10 : Int) ^ Int.toNat 60 ≠ 0 by decide)
   omega
  ·omega
 unfold byV
 generalize byM n c = m at hm
 split <;> omega
theorem byF_bad {n c : Int} (n0 : 0 <= n) : ¬ ChoOk (byF n c).1 (byF n c).2 := by
 have h1 := byV_out n c 0 3 (by decide) n0
 have h2 := byV_out n c 0 9 (by decide) n0
 have h3 := byV_out n c (-3) 3 (by decide) n0
 have h4 := byV_out n c (-9) 9 (by decide) n0
 unfold byF
 rintro ⟨⟨a1, a2, a3, a4, a5, a6⟩, ⟨b1, b2, b3, b4, b5, b6⟩, _, _⟩
 have h : n % 6 = 0 ∨ n % 6 = 1 ∨ n % 6 = 2 ∨ n % 6 = 3 ∨ n % 6 = 4 ∨ n % 6 = 5 := by omega
 rcases h with h | h | h | h | h | h <;> simp only [h] at * <;> first | exact h1 ⟨a1, a2⟩ | exact h1 ⟨a3, a4⟩ | exact h2 ⟨a5, a6⟩ | exact h3 ⟨b1, b2⟩ | exact h3 ⟨b3, b4⟩ | exact h4 ⟨b5, b6⟩
def mkPt (H : Hp) (Q : VK) (p : Prt) : Prop := ∀ (r : Addr) (H' : Hp), Same H H' -> PtAt H' r p -> Q (.ref r) H'
theorem at_by {n c lo hi : Int} (n0 : 0 <= n) : atI [V.int (lo - byM n c), V.int (hi + byM n c)] (n / 6 % 2) = some (V.int (byV n c lo hi)) := by
 unfold byV
 have : n / 6 % 2 = 0 ∨ n / 6 % 2 = 1 := by omega
 rcases this with z | z
 ·rw [z, if_pos rfl]; rfl
 ·rw [z, if_neg (by decide)]; rfl
def spBey : Sp := fun vs H Q _ => ∃ n c : Int, vs = [.int n, .int c] ∧ 0 <= n ∧ mkPt H Q (.cho (byF n c).1 (byF n c).2)
theorem ok__law_beyond {P : Program} {w : World} {K : PySem.W.Frag} {mg : Str -> Option Value} {base : Heap} (T : Tx K mg) : FnOk P w K mg base CX0 1 T.a__law_beyond T.fd__law_beyond ["_law_number_here", "_law_cell"] spBey := by
 refine T.F__law_beyond.ok sc__law_beyond (fun vs H Q E h => ?_) (fun cdv A outer s H vs Q E hr h => ?_)
 ·obtain ⟨n, c, rfl, _⟩ := h
  rfl
 obtain ⟨n, c, rfl, n0, k⟩ := h
 refine ⟨_, ((pss_cons (ps_set (i := 2) sc__law_beyond.nd rfl (Or.inl rfl) (pe_op op_add pe_int (pe_op op_mod (pe_op op_fdiv (pv 0) pe_int) pe_int)))
  (pss_mid (ps_if (pt_cmpR op_eq (pe_op op_mod (pe_op op_fdiv (pv 0) pe_int) pe_int) pe_int (nomark _)) (pss_one (ps_set (i := 2) sc__law_beyond.nd rfl (Or.inl rfl) (pe_op op_add pe_int (pe_op op_mod (pv 1) (pe_op op_pow pe_int pe_int))))) pss_nil)
  (pss_cons (ps_set (i := 3) sc__law_beyond.nd rfl (Or.inl rfl) (pe_lst (pa_cons (pe_lst (pa_cons pe_int (pa_cons pe_int (pa_cons pe_int pa_nil)))) (pa_cons (pe_lst (pa_cons pe_int (pa_cons pe_int (pa_cons pe_int pa_nil)))) pa_nil))))
  (pss_cons (ps_set (i := 4) sc__law_beyond.nd rfl (Or.inl rfl) (pe_op op_mod (pv 0) pe_int))
  (pss_cons (ps_set (i := 5) sc__law_beyond.nd rfl (Or.inl rfl) (pe_ix ix_list (pe_ix ix_list (pe_lst (pa_cons (pe_lst (pa_cons pe_int (pa_cons pe_int (pa_cons pe_int pa_nil)))) (pa_cons (pe_lst (pa_cons (pe_un un_neg pe_int) (pa_cons (pe_un un_neg pe_int) (pa_cons (pe_un un_neg pe_int) pa_nil)))) pa_nil))) (pe_op op_fdiv (pv 4) pe_int) (fun _ _ => rfl)) (pe_op op_mod (pv 4) pe_int) (fun _ _ => rfl)))
  (pss_cons (ps_set (i := 6) sc__law_beyond.nd rfl (Or.inl rfl) (pe_ix ix_list (pe_lst (pa_cons pe_int (pa_cons pe_int (pa_cons pe_int pa_nil)))) (pe_op op_mod (pv 4) pe_int) (fun _ _ => rfl)))
  (pss_mid (ps_asg (pe_ix ix_list (pe_lst (pa_cons (pe_op op_sub (pv 5) (pv 2)) (pa_cons (pe_op op_add (pv 6) (pv 2)) pa_nil))) (pe_op op_mod (pe_op op_fdiv (pv 0) pe_int) pe_int) (fun _ _ => rfl)) (pg_sub (pe_ix ix_list (pv 3) (pe_op op_fdiv (pv 4) pe_int) (fun _ _ => rfl)) (pe_op op_mod (pv 4) pe_int) set_list))
  (pss_one (ps_ret (pe_tup (pa_cons pe_str (pa_cons (pe_callTy call_tuple_of rfl T.z_tuple bt_tuple (pa_cons (pe_ix ix_list (pv 3) pe_int (fun _ _ => rfl)) pa_nil)) (pa_cons (pe_callTy call_tuple_of rfl T.z_tuple bt_tuple (pa_cons (pe_ix ix_list (pv 3) pe_int (fun _ _ => rfl)) pa_nil)) pa_nil)))))))))))))), ?_⟩
 dsimp only [a_seq]
 k_typeOf
 refine ⟨⟨by decide, by decide⟩, by decide, ?_⟩
 obtain ⟨M, hM⟩ : ∃ M : L2.St -> Hp -> Prop, ∀ σ H', M σ H' ↔ σ = [some (V.int n), some (V.int c), some (V.int (byM n c)), none, none, none, none] ∧ H' = H := ⟨_, fun _ _ => Iff.rfl⟩
 refine mid_of M ?_ ?_
 ·k_units
  refine ⟨⟨by decide, by decide⟩, by decide, ite2 (fun z => ⟨⟨by decide, by decide, by decide⟩, by decide, (hM _ _).mpr ⟨?_, rfl⟩⟩) (fun z => (hM _ _).mpr ⟨?_, rfl⟩)⟩
  ·unfold byM; rw [if_pos z]
  ·unfold byM; rw [if_neg z]
 intro σ H1 hm
 obtain ⟨rfl, rfl⟩ := (hM _ _).mp hm
 dsimp only [a_seq]
 k_typeOf
 refine ⟨by decide, fun p1 n1 => ⟨by decide, fun p2 n2 => ⟨by decide, fun p3 n3 => ?_⟩⟩⟩
 have u1 := same_upd n1 (.lst [V.int 2, V.int 1, V.int 3])
 have u2 := same_upd n2 (.lst [V.int 1, V.int 1, V.int 1])
 have u3 := same_upd n3 (.lst [V.ref p1, V.ref p2])
 have e1 := u3 _ _ (u2 _ _ (upd_same (H := H1) (a := p1) (o := .lst [V.int 2, V.int 1, V.int 3])))
 have e2 := u3 _ _ (upd_same (H := L2.upd H1 p1 (.lst [V.int 2, V.int 1, V.int 3])) (a := p2) (o := .lst [V.int 1, V.int 1, V.int 1]))
 have e3 := upd_same (H := L2.upd (L2.upd H1 p1 (.lst [V.int 2, V.int 1, V.int 3])) p2 (.lst [V.int 1, V.int 1, V.int 1])) (a := p3) (o := .lst [V.ref p1, V.ref p2])
 have s3 := (u1.trans u2).trans u3
 have n2' := u1.free n2
 have n12 : p1 ≠ p2 := fun z => by rw [← z, upd_same] at n2; cases n2
 have n13 : p3 ≠ p1 := fun z => by rw [z, u2 _ _ upd_same] at n3; cases n3
 have n23 : p3 ≠ p2 := fun z => by rw [z, upd_same] at n3; cases n3
 generalize L2.upd (L2.upd (L2.upd H1 p1 (.lst [V.int 2, V.int 1, V.int 3])) p2 (.lst [V.int 1, V.int 1, V.int 1])) p3 (.lst [V.ref p1, V.ref p2]) = G at e1 e2 e3 s3 ⊢
 clear u1 u2 u3 n2 n3 hm hM M
 dsimp only [a_seq]
 k_typeOf
 refine ⟨by decide, ?_⟩
 have h : n % 6 = 0 ∨ n % 6 = 1 ∨ n % 6 = 2 ∨ n % 6 = 3 ∨ n % 6 = 4 ∨ n % 6 = 5 := by omega
 dsimp only [a_seq]
 k_typeOf
 refine ⟨by decide, fun p4 n4 => ⟨by decide, fun p5 n5 => ⟨by decide, fun p6 n6 => ?_⟩⟩⟩
 have v4 := same_upd n4 (.lst [V.int 0, V.int 0, V.int 0])
 have v5 := same_upd n5 (.lst [V.int (-3), V.int (-3), V.int (-9)])
 have v6 := same_upd n6 (.lst [V.ref p4, V.ref p5])
 have e4 := v6 _ _ (v5 _ _ (upd_same (H := G) (a := p4) (o := .lst [V.int 0, V.int 0, V.int 0])))
 have e5 := v6 _ _ (upd_same (H := L2.upd G p4 (.lst [V.int 0, V.int 0, V.int 0])) (a := p5) (o := .lst [V.int (-3), V.int (-3), V.int (-9)]))
 have e6 := upd_same (H := L2.upd (L2.upd G p4 (.lst [V.int 0, V.int 0, V.int 0])) p5 (.lst [V.int (-3), V.int (-3), V.int (-9)])) (a := p6) (o := .lst [V.ref p4, V.ref p5])
 have s6 := (v4.trans v5).trans v6
 generalize L2.upd (L2.upd (L2.upd G p4 (.lst [V.int 0, V.int 0, V.int 0])) p5 (.lst [V.int (-3), V.int (-3), V.int (-9)])) p6 (.lst [V.ref p4, V.ref p5]) = G2 at e4 e5 e6 s6 ⊢
 have e1' := s6 _ _ e1
 have e2' := s6 _ _ e2
 have e3' := s6 _ _ e3
 have s36 := s3.trans s6
 clear v4 v5 v6 n4 n5 n6 e1 e2 e3 s3 s6
 rcases h with h | h | h | h | h | h
 all_goals
  simp only [byF, h] at k
  rw [h]
  refine ⟨⟨by decide, by decide⟩, _, SqL.of e6, _, rfl, by decide, _, rfl, _, SqL.of (by first | exact e4 | exact e5), _, rfl, ?_⟩
  dsimp only [a_seq]
  k_typeOf
  refine ⟨by decide, fun p7 n7 => ⟨by decide, _, SqL.of upd_same, _, rfl, ?_⟩⟩
  have u7 := same_upd n7 (.lst [V.int 3, V.int 3, V.int 9])
  have f1 := u7 _ _ e1'
  have f2 := u7 _ _ e2'
  have f3 := u7 _ _ e3'
  have s7 := s36.trans u7
  generalize L2.upd G2 p7 (.lst [V.int 3, V.int 3, V.int 9]) = G3 at f1 f2 f3 s7 ⊢
  clear u7
  obtain ⟨M, hM⟩ : ∃ M : L2.St -> Hp -> Prop, ∀ σ H', M σ H' ↔ ∃ (r4 r5 r6 : Option V), σ = [some (V.int n), some (V.int c), some (V.int (byM n c)), some (V.ref p3), r4, r5, r6] ∧ H' p3 = some (.lst [V.ref p1, V.ref p2]) ∧ (∃ f g, mkPt H1 Q (.cho f g) ∧ H' p1 = some (.lst [.int f.1, .int f.2.1, .int f.2.2]) ∧ H' p2 = some (.lst [.int g.1, .int g.2.1, .int g.2.2])) ∧ Same H1 H' := ⟨_, fun _ _ => Iff.rfl⟩
  refine mid_of M ?_ ?_; rotate_left
  ·intro σ G5 hm
   obtain ⟨r4, r5, r6, rfl, a3, ⟨f, g, kk, a1, a2⟩, sa⟩ := (hM _ _).mp hm
   k_units
   refine ⟨_, SqL.of a3, _, rfl, _, rfl, _, .inl ⟨SqL.of a1, fun q1 m1 => ?_⟩⟩
   have v1 := same_upd m1 (.tup [V.int f.1, V.int f.2.1, V.int f.2.2])
   refine ⟨_, SqL.of (v1 _ _ a3), _, rfl, _, rfl, _, .inl ⟨SqL.of (v1 _ _ a2), fun q2 m2 => ⟨by decide, fun r nr => ?_⟩⟩⟩
   have v2 := same_upd m2 (.tup [V.int g.1, V.int g.2.1, V.int g.2.2])
   exact kk r _ (((sa.trans v1).trans v2).trans (same_upd nr _)) ⟨q1, q2, upd_same, same_upd nr _ _ _ (v2 _ _ upd_same), same_upd nr _ _ _ upd_same⟩
  k_units
  refine ⟨by decide, fun p8 n8 => ?_⟩
  refine ⟨⟨by decide, by decide⟩, by decide, _, SqL.of upd_same, _, at_by n0, ⟨by decide, by decide⟩, _, SqL.of (same_upd n8 _ _ _ f3), _, rfl, by decide, _, rfl, _, (by first | exact same_upd n8 _ _ _ f1 | exact same_upd n8 _ _ _ f2), _, rfl, (hM _ _).mpr ⟨_, _, _, rfl, ?_, ⟨_, _, k, ?_, ?_⟩, ?_⟩⟩
  ·first | exact (upd_ne n13).trans (same_upd n8 _ _ _ f3) | exact (upd_ne n23).trans (same_upd n8 _ _ _ f3)
  ·first | exact upd_same | exact (upd_ne n12).trans (same_upd n8 _ _ _ f1)
  ·first | exact upd_same | exact (upd_ne (Ne.symm n12)).trans (same_upd n8 _ _ _ f2)
  ·first | exact (s7.trans (same_upd n8 _)).more n1 | exact (s7.trans (same_upd n8 _)).more n2'
def faF (n : Int) : (Int × Int × Int) × (Int × Int × Int) :=
 if n % 2 = 0 then ((n / 114 % 4, n / 456 % 4, n / 1824 % 10), (0, -1 - n / 2 % 3, n / 6 % 19 - 9))
 else ((n / 114 % 4, n / 456 % 4 % 3, n / 1824 % 10), (n / 114 % 4, n / 456 % 4 % 3 + 1 + n / 20000 % (3 - n / 456 % 4 % 3), n / 6 % 19 - 9))
theorem faF_bad {n : Int} (n0 : 0 <= n) : ¬ ChoOk (faF n).1 (faF n).2 := by
 unfold faF
 rintro ⟨_, _, f1, f2⟩
 split at f1
 ·refine f1 ⟨rfl, ?_⟩
  show -1 - n / 2 % 3 < 0
  omega
 ·rename_i h
  rw [if_neg h] at f2
  refine f2 ⟨?_, ?_⟩
  ·show n / 114 % 4 - n / 114 % 4 = 0
   omega
  ·show n / 456 % 4 % 3 - (n / 456 % 4 % 3 + 1 + n / 20000 % (3 - n / 456 % 4 % 3)) < 0
   have := Int.emod_nonneg (n / 20000) (show 3 - n / 456 % 4 % 3 ≠ 0 by omega)
   omega
def spFal : Sp := fun vs H Q _ => ∃ n : Int, vs = [.int n] ∧ 0 <= n ∧ mkPt H Q (.cho (faF n).1 (faF n).2)
theorem ok__law_fallen {P : Program} {w : World} {K : PySem.W.Frag} {mg : Str -> Option Value} {base : Heap} (T : Tx K mg) : FnOk P w K mg base CX0 1 T.a__law_fallen T.fd__law_fallen ["_law_number_here"] spFal := by
 refine T.F__law_fallen.ok sc__law_fallen (fun vs H Q E h => ?_) (fun cdv A outer s H vs Q E hr h => ?_)
 ·obtain ⟨n, rfl, _⟩ := h
  rfl
 obtain ⟨n, rfl, n0, k⟩ := h
 refine ⟨_, ((pss_cons (ps_set (i := 1) sc__law_fallen.nd rfl (Or.inl rfl) (pe_tup (pa_cons pe_int (pa_cons (pe_op op_sub (pe_un un_neg pe_int) (pe_op op_mod (pe_op op_fdiv (pv 0) pe_int) pe_int)) (pa_cons (pe_op op_sub (pe_op op_mod (pe_op op_fdiv (pv 0) pe_int) pe_int) pe_int) pa_nil)))))
  (pss_cons (ps_set (i := 2) sc__law_fallen.nd rfl (Or.inl rfl) (pe_tup (pa_cons (pe_op op_mod (pe_op op_fdiv (pv 0) pe_int) pe_int) (pa_cons (pe_op op_mod (pe_op op_fdiv (pv 0) pe_int) pe_int) (pa_cons (pe_op op_mod (pe_op op_fdiv (pv 0) pe_int) pe_int) pa_nil)))))
  (pss_cons (ps_if (pt_cmpR op_eq (pe_op op_mod (pv 0) pe_int) pe_int (nomark _)) (pss_one (ps_ret (pe_tup (pa_cons pe_str (pa_cons (pv 2) (pa_cons (pv 1) pa_nil)))))) pss_nil)
  (pss_cons (ps_set (i := 2) sc__law_fallen.nd rfl (Or.inl rfl) (pe_tup (pa_cons (pe_ix ix_tup (pv 2) pe_int (fun _ _ => rfl)) (pa_cons (pe_op op_mod (pe_ix ix_tup (pv 2) pe_int (fun _ _ => rfl)) pe_int) (pa_cons (pe_ix ix_tup (pv 2) pe_int (fun _ _ => rfl)) pa_nil)))))
  (pss_one (ps_ret (pe_tup (pa_cons pe_str (pa_cons (pv 2) (pa_cons (pe_tup (pa_cons (pe_ix ix_tup (pv 2) pe_int (fun _ _ => rfl)) (pa_cons (pe_op op_add (pe_op op_add (pe_ix ix_tup (pv 2) pe_int (fun _ _ => rfl)) pe_int) (pe_op op_mod (pe_op op_fdiv (pv 0) pe_int) (pe_op op_sub pe_int (pe_ix ix_tup (pv 2) pe_int (fun _ _ => rfl))))) (pa_cons (pe_ix ix_tup (pv 1) pe_int (fun _ _ => rfl)) pa_nil)))) pa_nil))))))))))), ?_⟩
 have d : ∀ c : Int, 0 < c -> c < 2 ^ 30 -> CDiv n c := fun c h1 h2 => ⟨h1, h2⟩
 unfold faF at k
 dsimp only [a_seq]
 k_typeOf
 refine ⟨d _ (by decide) (by decide), by decide, d _ (by decide) (by decide), by decide, by decide, fun p np => ?_⟩
 have u1 := same_upd np (.tup [V.int 0, V.int (-1 - n / 2 % 3), V.int (n / 6 % 19 - 9)])
 have e1 := upd_same (H := H) (a := p) (o := .tup [V.int 0, V.int (-1 - n / 2 % 3), V.int (n / 6 % 19 - 9)])
 generalize L2.upd H p (.tup [V.int 0, V.int (-1 - n / 2 % 3), V.int (n / 6 % 19 - 9)]) = G1 at u1 e1 ⊢
 dsimp only [a_seq]
 k_typeOf
 refine ⟨d _ (by decide) (by decide), by decide, d _ (by decide) (by decide), by decide, d _ (by decide) (by decide), by decide, by decide, fun q nq => ?_⟩
 have u2 := same_upd nq (.tup [V.int (n / 114 % 4), V.int (n / 456 % 4), V.int (n / 1824 % 10)])
 have e2 := upd_same (H := G1) (a := q) (o := .tup [V.int (n / 114 % 4), V.int (n / 456 % 4), V.int (n / 1824 % 10)])
 generalize L2.upd G1 q (.tup [V.int (n / 114 % 4), V.int (n / 456 % 4), V.int (n / 1824 % 10)]) = G2 at u2 e2 ⊢
 dsimp only [a_seq]
 k_typeOf
 refine ⟨by decide, ite2 (fun z => ⟨by decide, fun r nr => ?_⟩) (fun z => ?_)⟩
 ·rw [if_pos z] at k
  exact k r _ ((u1.trans u2).trans (same_upd nr _)) ⟨q, p, upd_same, same_upd nr _ _ _ e2, same_upd nr _ _ _ (u2 _ _ e1)⟩
 rw [if_neg z] at k
 dsimp only [a_seq]
 k_typeOf
 refine ⟨_, SqT.of e2, _, rfl, _, SqT.of e2, _, rfl, _, rfl, by decide, _, SqT.of e2, _, rfl, by decide, fun q3 n3 => ?_⟩
 have u3 := same_upd n3 (.tup [V.int (n / 114 % 4), V.int (n / 456 % 4 % 3), V.int (n / 1824 % 10)])
 have e3 := upd_same (H := G2) (a := q3) (o := .tup [V.int (n / 114 % 4), V.int (n / 456 % 4 % 3), V.int (n / 1824 % 10)])
 generalize L2.upd G2 q3 (.tup [V.int (n / 114 % 4), V.int (n / 456 % 4 % 3), V.int (n / 1824 % 10)]) = G3 at u3 e3 ⊢
 k_units
 refine ⟨_, SqT.of e3, _, rfl, _, SqT.of e3, _, rfl, _, rfl, d _ (by decide) (by decide), _, SqT.of e3, _, rfl, _, rfl, by omega, _, SqT.of (u3 _ _ (u2 _ _ e1)), _, rfl, by decide, fun q4 n4 => ⟨by decide, fun r nr => ?_⟩⟩
 exact k r _ (((u1.trans u2).trans u3).trans ((same_upd n4 _).trans (same_upd nr _))) ⟨q3, q4, upd_same, same_upd nr _ _ _ (same_upd n4 _ _ _ e3), same_upd nr _ _ _ upd_same⟩
def noP (c : Int) : Gp :=
 if mixV c 9 % 8 < 3 then .pt (.cho (byF (mixV c 9 / 8) c).1 (byF (mixV c 9 / 8) c).2)
 else if mixV c 9 % 8 < 5 then .pt (.cho (faF (mixV c 9 / 8)).1 (faF (mixV c 9 / 8)).2)
 else if mixV c 9 % 8 = 5 then .pt (.pow (0, 1))
 else if mixV c 9 % 8 = 6 then .pt (.gro (0, 1))
 else .wd (mixV c 9 / 8 % 7).toNat (decide (mixV c 9 / 8 / 7 % 2 = 0))
theorem noP_bad (c : Int) : GBad (noP c) := by
 have h0 := mixV_nn c 9
 unfold noP
 generalize mixV c 9 = m at h0
 have h1 : 0 <= m / 8 := by omega
 split
 ·exact byF_bad h1
 split
 ·exact faF_bad h1
 split
 ·rfl
 split
 ·rfl
 ·show (m / 8 % 7).toNat < 7
  omega
theorem at_wd {m : Int} : atI [V.str (Str.ofString ""), V.str (Str.ofString "chose"), V.str (Str.ofString "weights"), V.str (Str.ofString "power "), V.str (Str.ofString "Growth"), V.str (Str.ofString "sum"), V.str (Str.ofString "floor")] (m % 7) = some (V.str (wdS (m % 7).toNat)) := by
 have : m % 7 = 0 ∨ m % 7 = 1 ∨ m % 7 = 2 ∨ m % 7 = 3 ∨ m % 7 = 4 ∨ m % 7 = 5 ∨ m % 7 = 6 := by omega
 rcases this with z | z | z | z | z | z | z <;> rw [z] <;> rfl
def spNo : Sp := fun vs H Q _ => ∃ c : Int, vs = [.int c] ∧ ∀ (r : Addr) (H' : Hp), Same H H' -> GAt H' r (noP c) -> Q (.ref r) H'
theorem ok__law_no_part {P : Program} {w : World} {K : PySem.W.Frag} {mg : Str -> Option Value} {base : Heap} (T : Tx K mg) : FnOk P w K mg base CX0 2 T.a__law_no_part T.fd__law_no_part ["_law_cell"] spNo := by
 refine T.F__law_no_part.ok sc__law_no_part (fun vs H Q E h => ?_) (fun cdv A outer s H vs Q E hr h => ?_)
 ·obtain ⟨c, rfl, _⟩ := h
  rfl
 obtain ⟨c, rfl, k⟩ := h
 refine ⟨_, ((pss_cons (ps_set (i := 1) sc__law_no_part.nd rfl (Or.inl rfl) (pe_call (FnOk.mono (ok__law_mixed T) (by decide)) hr rfl T.m__law_mixed T.F__law_mixed.kp T.b__law_mixed .nil pass0 (pa_cons (pv 0) (pa_cons pe_int pa_nil))))
  (pss_cons (ps_set (i := 2) sc__law_no_part.nd rfl (Or.inl rfl) (pe_op op_mod (pv 1) pe_int))
  (pss_cons (ps_set (i := 1) sc__law_no_part.nd rfl (Or.inl rfl) (pe_op op_fdiv (pv 1) pe_int))
  (pss_cons (ps_if (pt_cmpR op_lt (pv 2) pe_int (nomark _)) (pss_one (ps_ret (pe_call (FnOk.mono (ok__law_beyond T) (by decide)) hr rfl T.m__law_beyond T.F__law_beyond.kp T.b__law_beyond .nil pass0 (pa_cons (pv 1) (pa_cons (pv 0) pa_nil))))) pss_nil)
  (pss_cons (ps_if (pt_cmpR op_lt (pv 2) pe_int (nomark _)) (pss_one (ps_ret (pe_call (FnOk.mono (ok__law_fallen T) (by decide)) hr rfl T.m__law_fallen T.F__law_fallen.kp T.b__law_fallen .nil pass0 (pa_cons (pv 1) pa_nil)))) pss_nil)
  (pss_cons (ps_if (pt_cmpR op_eq (pv 2) pe_int (nomark _)) (pss_one (ps_ret (pe_tup (pa_cons pe_str (pa_cons (pe_tup (pa_cons pe_int (pa_cons pe_int pa_nil))) pa_nil))))) pss_nil)
  (pss_cons (ps_if (pt_cmpR op_eq (pv 2) pe_int (nomark _)) (pss_one (ps_ret (pe_tup (pa_cons pe_str (pa_cons (pe_tup (pa_cons pe_int (pa_cons pe_int pa_nil))) pa_nil))))) pss_nil)
  (pss_cons (ps_set (i := 3) sc__law_no_part.nd rfl (Or.inl rfl) (pe_lst (pa_cons pe_str (pa_cons pe_str (pa_cons pe_str (pa_cons pe_str (pa_cons pe_str (pa_cons pe_str (pa_cons pe_str pa_nil)))))))))
  (pss_one (ps_ret (pe_tup (pa_cons (pe_ix ix_list (pv 3) (pe_op op_mod (pv 1) pe_int) (fun _ _ => rfl)) (pa_cons (pe_ix ix_list (pe_lst (pa_cons (pe_tup (pa_cons pe_int (pa_cons pe_int (pa_cons pe_int pa_nil)))) (pa_cons (pe_tup (pa_cons pe_int (pa_cons pe_int pa_nil))) pa_nil))) (pe_op op_mod (pe_op op_fdiv (pv 1) pe_int) pe_int) (fun _ _ => rfl)) pa_nil)))))))))))))), ?_⟩
 have h0 := mixV_nn c 9
 unfold noP at k
 dsimp only [a_seq]
 k_typeOf
 refine ⟨c, 9, rfl, by decide, ?_⟩
 generalize mixV c 9 = m at h0 k ⊢
 have h1 : 0 <= m / 8 := by omega
 dsimp only [a_seq]
 k_typeOf
 refine ⟨by decide, ?_⟩
 dsimp only [a_seq]
 k_typeOf
 refine ⟨⟨by decide, by decide⟩, ?_⟩
 dsimp only [a_seq]
 k_typeOf
 refine ite2 (fun z => ⟨_, c, rfl, h1, fun r H' s' hp => ?_⟩) (fun z1 => ?_)
 ·rw [if_pos z] at k; exact k r H' s' hp
 rw [if_neg z1] at k
 dsimp only [a_seq]
 k_typeOf
 refine ite2 (fun z => ⟨_, rfl, h1, fun r H' s' hp => ?_⟩) (fun z2 => ?_)
 ·rw [if_pos z] at k; exact k r H' s' hp
 rw [if_neg z2] at k
 dsimp only [a_seq]
 k_typeOf
 refine ite2 (fun z => ⟨by decide, fun p np => ⟨by decide, fun r nr => ?_⟩⟩) (fun z3 => ?_)
 ·rw [if_pos z] at k; exact k r _ ((same_upd np _).trans (same_upd nr _)) ⟨p, upd_same, same_upd nr _ _ _ upd_same⟩
 rw [if_neg z3] at k
 dsimp only [a_seq]
 k_typeOf
 refine ite2 (fun z => ⟨by decide, fun p np => ⟨by decide, fun r nr => ?_⟩⟩) (fun z4 => ?_)
 ·rw [if_pos z] at k; exact k r _ ((same_upd np _).trans (same_upd nr _)) ⟨p, upd_same, same_upd nr _ _ _ upd_same⟩
 rw [if_neg z4] at k
 generalize m / 8 = v at h1 k ⊢
 have hv : (v % 7).toNat < 7 := by omega
 dsimp only [a_seq]
 k_typeOf
 refine ⟨by decide, fun p np => ?_⟩
 k_units
 refine ⟨by decide, _, SqL.of upd_same, _, at_wd, ?_⟩
 have u1 := same_upd np (.lst [V.str (Str.ofString ""), V.str (Str.ofString "chose"), V.str (Str.ofString "weights"), V.str (Str.ofString "power "), V.str (Str.ofString "Growth"), V.str (Str.ofString "sum"), V.str (Str.ofString "floor")])
 generalize L2.upd H p (.lst [V.str (Str.ofString ""), V.str (Str.ofString "chose"), V.str (Str.ofString "weights"), V.str (Str.ofString "power "), V.str (Str.ofString "Growth"), V.str (Str.ofString "sum"), V.str (Str.ofString "floor")]) = G1 at u1 ⊢
 refine ⟨by decide, fun q1 m1 => ⟨by decide, fun q2 m2 => ⟨by decide, fun q3 m3 => ⟨⟨by decide, by decide⟩, by decide, _, SqL.of upd_same, ?_⟩⟩⟩⟩
 have v1 := same_upd m1 (.tup [V.int 1, V.int 0, V.int 0])
 have v2 := same_upd m2 (.tup [V.int 1, V.int 2])
 have v3 := same_upd m3 (.lst [V.ref q1, V.ref q2])
 have e1 := v3 _ _ (v2 _ _ (upd_same (H := G1) (a := q1) (o := .tup [V.int 1, V.int 0, V.int 0])))
 have e2 := v3 _ _ (upd_same (H := L2.upd G1 q1 (.tup [V.int 1, V.int 0, V.int 0])) (a := q2) (o := .tup [V.int 1, V.int 2]))
 have sv := u1.trans ((v1.trans v2).trans v3)
 generalize L2.upd (L2.upd (L2.upd G1 q1 (.tup [V.int 1, V.int 0, V.int 0])) q2 (.tup [V.int 1, V.int 2])) q3 (.lst [V.ref q1, V.ref q2]) = G2 at e1 e2 sv ⊢
 have h2 : v / 7 % 2 = 0 ∨ v / 7 % 2 = 1 := by omega
 rcases h2 with z | z
 ·rw [z, show decide ((0 : Int) = 0) = true from rfl] at k
  rw [z]
  exact ⟨_, rfl, by decide, fun r nr => k r _ (sv.trans (same_upd nr _)) ⟨hv, q1, upd_same, same_upd nr _ _ _ e1⟩⟩
 ·rw [z, show decide ((1 : Int) = 0) = false from rfl] at k
  rw [z]
  exact ⟨_, rfl, by decide, fun r nr => k r _ (sv.trans (same_upd nr _)) ⟨hv, q2, upd_same, same_upd nr _ _ _ e2⟩⟩
def spFms : Sp := fun vs H Q _ => ∃ a b : Int, vs = [.int a, .int b, .int 3] ∧ 0 <= a ∧ 0 <= b ∧ ∀ h l, ChoOk h l -> mkPt H Q (.cho h l)
theorem ok__law_forms {P : Program} {w : World} {K : PySem.W.Frag} {mg : Str -> Option Value} {base : Heap} (T : Tx K mg) : FnOk P w K mg base CX0 1 T.a__law_forms T.fd__law_forms ["_law_one", "_law_other", "_law_most"] spFms := by
 refine T.F__law_forms.ok sc__law_forms (fun vs H Q E h => ?_) (fun cdv A outer s H vs Q E hr h => ?_)
 ·obtain ⟨a, b, rfl, _⟩ := h
  rfl
 obtain ⟨a, b, rfl, ha, hb, k⟩ := h
 refine ⟨_, ((pss_cons (ps_set (i := 3) sc__law_forms.nd rfl (Or.inl rfl) (pe_tup (pa_cons (pe_op op_mod (pv 0) (pe_op op_add (pv 2) pe_int)) (pa_cons (pe_op op_mod (pe_op op_fdiv (pv 0) pe_int) (pe_op op_add (pv 2) pe_int)) (pa_cons (pe_op op_mod (pe_op op_fdiv (pv 0) pe_int) pe_int) pa_nil)))))
  (pss_mid (ps_if (pt_cmpR op_eq (pe_op op_mod (pe_op op_fdiv (pv 0) pe_int) pe_int) pe_int (nomark _)) (pss_one (ps_set (i := 4) sc__law_forms.nd rfl (Or.inl rfl) (pe_tup (pa_cons (pe_op op_mod (pv 1) (pe_op op_add (pe_ix ix_tup (pv 3) pe_int (fun _ _ => rfl)) pe_int)) (pa_cons (pe_op op_sub (pe_op op_mod (pe_op op_fdiv (pv 1) pe_int) pe_int) pe_int) (pa_cons (pe_op op_mod (pe_op op_fdiv (pv 1) pe_int) (pe_op op_add (pe_ix ix_tup (pv 3) pe_int (fun _ _ => rfl)) pe_int)) pa_nil)))))) (pss_one (ps_set (i := 4) sc__law_forms.nd rfl (Or.inl rfl) (pe_tup (pa_cons (pe_op op_sub (pe_op op_mod (pv 1) (pe_op op_add (pe_op op_mul pe_int (pv 2)) pe_int)) (pv 2)) (pa_cons (pe_op op_sub (pe_op op_mod (pe_op op_fdiv (pv 1) pe_int) (pe_op op_add (pe_op op_mul pe_int (pv 2)) pe_int)) (pv 2)) (pa_cons (pe_op op_sub (pe_op op_mod (pe_op op_fdiv (pv 1) pe_int) pe_int) pe_int) pa_nil)))))))
  (pss_mid (ps_if (PW.pt (pw_and (pt_cmpR op_eq (pe_ix ix_tup (pv 4) pe_int (fun _ _ => rfl)) pe_int (nomark _)) (pw_and1 (pt_cmpR op_lt (pe_ix ix_tup (pv 4) pe_int (fun _ _ => rfl)) pe_int (nomark _))))) (pss_one (ps_set (i := 4) sc__law_forms.nd rfl (Or.inl rfl) (pe_tup (pa_cons pe_int (pa_cons (pe_un un_neg (pe_ix ix_tup (pv 4) pe_int (fun _ _ => rfl))) (pa_cons (pe_ix ix_tup (pv 4) pe_int (fun _ _ => rfl)) pa_nil)))))) pss_nil)
  (pss_mid (ps_if (PW.pt (pw_and (pt_cmpR op_eq (pe_ix ix_tup (pv 4) pe_int (fun _ _ => rfl)) (pe_ix ix_tup (pv 3) pe_int (fun _ _ => rfl)) (nomark _)) (pw_and1 (pt_cmpR op_gt (pe_ix ix_tup (pv 4) pe_int (fun _ _ => rfl)) (pe_ix ix_tup (pv 3) pe_int (fun _ _ => rfl)) (nomark _))))) (pss_one (ps_set (i := 4) sc__law_forms.nd rfl (Or.inl rfl) (pe_tup (pa_cons (pe_ix ix_tup (pv 4) pe_int (fun _ _ => rfl)) (pa_cons (pe_ix ix_tup (pv 3) pe_int (fun _ _ => rfl)) (pa_cons (pe_ix ix_tup (pv 4) pe_int (fun _ _ => rfl)) pa_nil)))))) pss_nil)
  (pss_one (ps_ret (pe_tup (pa_cons pe_str (pa_cons (pv 3) (pa_cons (pv 4) pa_nil))))))))))), ?_⟩
 have d : ∀ c : Int, 0 < c -> c < 2 ^ 30 -> CDiv a c ∧ CDiv b c := fun c h1 h2 => ⟨⟨h1, h2⟩, ⟨h1, h2⟩⟩
 dsimp only [a_seq]
 k_typeOf
 refine ⟨by decide, (d _ (by decide) (by decide)).1, by decide, (d _ (by decide) (by decide)).1, by decide, by decide, fun p np => ?_⟩
 obtain ⟨h, hh⟩ : ∃ h : Int × Int × Int, h = (a % (3 + 1), a / 4 % (3 + 1), a / 16 % 10) := ⟨_, rfl⟩
 have hb' : 0 <= h.1 ∧ h.1 <= 3 ∧ 0 <= h.2.1 ∧ h.2.1 <= 3 ∧ 0 <= h.2.2 ∧ h.2.2 <= 9 := by rw [hh]; refine ⟨?_, ?_, ?_, ?_, ?_, ?_⟩ <;> (dsimp only; omega)
 obtain ⟨G, hG⟩ : ∃ G, G = L2.upd H p (.tup [V.int (a % (3 + 1)), V.int (a / 4 % (3 + 1)), V.int (a / 16 % 10)]) := ⟨_, rfl⟩
 have gp : G p = some (T3 h) := by rw [hG, hh]; exact upd_same
 have s0 : Same H G := by rw [hG]; exact same_upd np _
 rw [← hG]
 clear hG hh
 obtain ⟨M, hM⟩ : ∃ M : (Int × Int × Int -> Prop) -> L2.St -> Hp -> Prop, ∀ C σ H', M C σ H' ↔ ∃ (q : Addr) (l : Int × Int × Int), σ = [some (V.int a), some (V.int b), some (V.int 3), some (V.ref p), some (V.ref q)] ∧ H' q = some (T3 l) ∧ (-3 <= l.1 ∧ l.1 <= 3 ∧ -3 <= l.2.1 ∧ l.2.1 <= 3 ∧ -9 <= l.2.2 ∧ l.2.2 <= 9) ∧ C l ∧ Same G H' := ⟨_, fun _ _ _ => Iff.rfl⟩
 refine mid_of (M fun _ => True) ?_ ?_
 ·k_units
  refine ⟨(d _ (by decide) (by decide)).1, by decide, ite2 (fun z => ?_) (fun z => ?_)⟩
  ·refine ⟨_, SqT.of gp, _, rfl, _, rfl, by omega, (d _ (by decide) (by decide)).2, by decide, (d _ (by decide) (by decide)).2, _, SqT.of gp, _, rfl, _, rfl, by omega, by decide, fun q nq => ?_⟩
   have e1 := Int.emod_nonneg b (show h.1 + 1 ≠ 0 by omega)
   have e2 := Int.emod_lt_of_pos b (show 0 < h.1 + 1 by omega)
   have e3 := Int.emod_nonneg (b / 12) (show h.2.2 + 1 ≠ 0 by omega)
   have e4 := Int.emod_lt_of_pos (b / 12) (show 0 < h.2.2 + 1 by omega)
   exact (hM _ _ _).mpr ⟨q, (b % (h.1 + 1), b / 4 % 3 - 1, b / 12 % (h.2.2 + 1)), rfl, upd_same, ⟨by dsimp only; omega, by dsimp only; omega, by dsimp only; omega, by dsimp only; omega, by dsimp only; omega, by dsimp only; omega⟩, trivial, same_upd nq _⟩
  ·refine ⟨.inl ⟨by decide, by decide⟩, by decide, (d _ (by decide) (by decide)).2, .inl ⟨by decide, by decide⟩, by decide, (d _ (by decide) (by decide)).2, by decide, by decide, fun q nq => ?_⟩
   exact (hM _ _ _).mpr ⟨q, (b % (2 * 3 + 1) - 3, b / 7 % (2 * 3 + 1) - 3, b / 49 % 19 - 9), rfl, upd_same, ⟨by dsimp only; omega, by dsimp only; omega, by dsimp only; omega, by dsimp only; omega, by dsimp only; omega, by dsimp only; omega⟩, trivial, same_upd nq _⟩
 intro σ H1 hm
 obtain ⟨q, l, rfl, eq, lb, _, s1⟩ := (hM _ _ _).mp hm
 refine mid_of (M fun l => ¬ (l.1 = 0 ∧ l.2.1 < 0)) ?_ ?_
 ·k_units
  refine ⟨_, SqT.of eq, _, rfl, ?_⟩
  k_units
  refine ite2 (fun z => ⟨_, SqT.of eq, _, rfl, ?_⟩) (fun z => (hM _ _ _).mpr ⟨q, l, rfl, eq, lb, fun y => z y.1, s1⟩)
  k_units
  refine ite2 (fun z2 => ?_) (fun z2 => (hM _ _ _).mpr ⟨q, l, rfl, eq, lb, fun y => z2 y.2, s1⟩)
  exact ⟨_, SqT.of eq, _, rfl, _, rfl, _, SqT.of eq, _, rfl, by decide, fun q2 nq2 => (hM _ _ _).mpr ⟨q2, (0, -l.2.1, l.2.2), rfl, upd_same, ⟨by dsimp only; omega, by dsimp only; omega, by dsimp only; omega, by dsimp only; omega, by dsimp only; omega, by dsimp only; omega⟩, by dsimp only; omega, s1.trans (same_upd nq2 _)⟩⟩
 clear hm lb eq s1
 intro σ H1 hm
 obtain ⟨q, l, rfl, eq, lb, c1, s1⟩ := (hM _ _ _).mp hm
 refine mid_of (M fun l => ¬ (l.1 = 0 ∧ l.2.1 < 0) ∧ ¬ (h.1 - l.1 = 0 ∧ h.2.1 - l.2.1 < 0)) ?_ ?_
 ·k_units
  refine ⟨_, SqT.of eq, _, rfl, _, SqT.of (s1 _ _ gp), _, rfl, ?_⟩
  k_units
  refine ite2 (fun z => ⟨_, SqT.of eq, _, rfl, _, SqT.of (s1 _ _ gp), _, rfl, _, rfl, _, rfl, ite2 (fun z2 => ?_) (fun z2 => (hM _ _ _).mpr ⟨q, l, rfl, eq, lb, ⟨c1, fun y => z2 (by omega)⟩, s1⟩)⟩) (fun z => (hM _ _ _).mpr ⟨q, l, rfl, eq, lb, ⟨c1, fun y => z (by omega)⟩, s1⟩)
  exact ⟨_, SqT.of eq, _, rfl, _, SqT.of (s1 _ _ gp), _, rfl, _, SqT.of eq, _, rfl, by decide, fun q2 nq2 => (hM _ _ _).mpr ⟨q2, (l.1, h.2.1, l.2.2), rfl, upd_same, ⟨by dsimp only; omega, by dsimp only; omega, by dsimp only; omega, by dsimp only; omega, by dsimp only; omega, by dsimp only; omega⟩, by dsimp only; omega, s1.trans (same_upd nq2 _)⟩⟩
 clear hm lb eq s1
 intro σ H1 hm
 obtain ⟨q, l, rfl, eq, lb, ⟨c1, c2⟩, s1⟩ := (hM _ _ _).mp hm
 k_units
 exact ⟨by decide, fun r nr => k h l ⟨hb', lb, c1, c2⟩ r _ ((s0.trans s1).trans (same_upd nr _)) ⟨p, q, upd_same, same_upd nr _ _ _ (s1 _ _ gp), same_upd nr _ _ _ eq⟩⟩
def spRat : Sp := fun vs H Q _ => ∃ a b : Int, vs = [.int a, .int b] ∧ ∀ f : Int × Int, Frc f -> f.1 ≠ 0 -> Bd 70 f.1 -> Bd 20 f.2 -> ∀ (r : Addr) (H' : Hp), Same H H' -> H' r = some (T2 f) -> Q (.ref r) H'
theorem ok__law_ratio {P : Program} {w : World} {K : PySem.W.Frag} {mg : Str -> Option Value} {base : Heap} (T : Tx K mg) : FnOk P w K mg base CX0 2 T.a__law_ratio T.fd__law_ratio ["_law_one", "_law_other"] spRat := by
 refine T.F__law_ratio.ok sc__law_ratio (fun vs H Q E h => ?_) (fun cdv A outer s H vs Q E hr h => ?_)
 ·obtain ⟨a, b, rfl, _⟩ := h
  rfl
 obtain ⟨a, b, rfl, k⟩ := h
 refine ⟨_, ((pss_cons (ps_set (i := 2) sc__law_ratio.nd rfl (Or.inl rfl) (pe_call (FnOk.mono (ok__law_number T) (by decide)) hr rfl T.m__law_number T.F__law_number.kp T.b__law_number .nil pass0 (pa_cons (pv 0) (pa_cons (pe_op op_pow pe_int pe_int) pa_nil))))
  (pss_mid (ps_if (pt_cmpR op_eq (pv 2) pe_int (nomark _)) (pss_one (ps_set (i := 2) sc__law_ratio.nd rfl (Or.inl rfl) pe_int)) pss_nil)
  (pss_cons (ps_set (i := 3) sc__law_ratio.nd rfl (Or.inl rfl) (pe_call (FnOk.mono (ok_mixed0 T) (by decide)) hr rfl T.m__law_mixed T.F__law_mixed.kp T.b__law_mixed .nil pass0 (pa_cons (pv 1) (pa_cons pe_int pa_nil))))
  (pss_cons (ps_set (i := 4) sc__law_ratio.nd rfl (Or.inl rfl) (pe_ix ix_list (pe_lst (pa_cons pe_int (pa_cons (pe_op op_add pe_int (pe_op op_mod (pe_op op_fdiv (pv 3) pe_int) pe_int)) (pa_cons (pe_op op_add pe_int (pe_op op_mod (pe_op op_fdiv (pv 3) pe_int) (pe_op op_pow pe_int pe_int))) pa_nil)))) (pe_op op_mod (pv 3) pe_int) (fun _ _ => rfl)))
  (pss_cons (ps_set (i := 5) sc__law_ratio.nd rfl (Or.inl rfl) (pe_call (FnOk.mono (ok__law_divisor T) (by decide)) hr rfl T.m__law_divisor T.F__law_divisor.kp T.b__law_divisor .nil pass0 (pa_cons (pv 2) (pa_cons (pv 4) pa_nil))))
  (pss_one (ps_ret (pe_tup (pa_cons (pe_op op_fdivB (pv 2) (pv 5)) (pa_cons (pe_op op_fdivB (pv 4) (pv 5)) pa_nil))))))))))), ?_⟩
 dsimp only [a_seq]
 k_typeOf
 refine ⟨⟨by decide, by decide, by decide⟩, a, _, rfl, .inr rfl, fun t ht => ?_⟩
 obtain ⟨M, hM⟩ : ∃ M : L2.St -> Hp -> Prop, ∀ σ H', M σ H' ↔ ∃ t : Int, σ = [some (V.int a), some (V.int b), some (V.int t), none, none, none] ∧ t ≠ 0 ∧ Bd 70 t ∧ H' = H := ⟨_, fun _ _ => Iff.rfl⟩
 have bt : Bd 70 t := Nat.lt_of_lt_of_le ht (by decide)
 refine mid_of M ?_ ?_
 ·k_units
  exact ite2 (fun z => (hM _ _).mpr ⟨1, rfl, by decide, Bd.one (by decide), rfl⟩) (fun z => (hM _ _).mpr ⟨t, rfl, z, bt, rfl⟩)
 clear bt ht
 intro σ H1 hm
 obtain ⟨t', rfl, t0, bt, rfl⟩ := (hM _ _).mp hm
 dsimp only [a_seq]
 k_typeOf
 refine ⟨b, 3, rfl, by decide, fun m hm0 => ?_⟩
 dsimp only [a_seq]
 k_typeOf
 refine ⟨⟨by decide, by decide⟩, by decide, ⟨by decide, by decide⟩, ⟨by decide, by decide, by decide⟩, by decide, by decide, fun p np => ⟨by decide, _, SqL.of upd_same, ?_⟩⟩
 have e6 : (10 : Int) ^ Int.toNat 6 = 1000000 := rfl
 obtain ⟨bo, hbo, b1, b2⟩ : ∃ bo : Int, atI [V.int 1, V.int (1 + m / 3 % 9), V.int (1 + m / 3 % (10 : Int) ^ Int.toNat 6)] (m % 3) = some (V.int bo) ∧ 1 <= bo ∧ bo <= 1000000 := by
  rw [e6]
  have : m % 3 = 0 ∨ m % 3 = 1 ∨ m % 3 = 2 := by omega
  rcases this with z | z | z <;> rw [z]
  ·exact ⟨_, rfl, by omega, by omega⟩
  ·exact ⟨_, rfl, by omega, by omega⟩
  ·exact ⟨_, rfl, by omega, by omega⟩
 refine ⟨_, hbo, ?_⟩
 clear hbo
 have u1 := same_upd np (.lst [V.int 1, V.int (1 + m / 3 % 9), V.int (1 + m / 3 % (10 : Int) ^ Int.toNat 6)])
 generalize L2.upd H1 p (.lst [V.int 1, V.int (1 + m / 3 % 9), V.int (1 + m / 3 % (10 : Int) ^ Int.toNat 6)]) = G at u1
 dsimp only [a_seq]
 k_typeOf
 refine ⟨t', bo, rfl, ?_⟩
 k_units
 obtain ⟨g1, g2, g3, g4, g5, g6⟩ := gcd_split (t := t') (b := bo) (s := ((Nat.gcd t'.natAbs bo.natAbs : Nat) : Int)) (by omega) (by rw [if_neg (by omega)])
 have small : (((Nat.gcd t'.natAbs bo.natAbs : Nat) : Int)).natAbs < 2 ^ 9000 := by
  rw [Int.natAbs_natCast]
  exact Nat.lt_of_le_of_lt (Nat.gcd_le_right _ (by omega)) (Nat.lt_of_le_of_lt (show bo.natAbs <= 1000000 by omega) (Nat.lt_of_lt_of_le (show 1000000 < 2 ^ 20 by decide) (Nat.pow_le_pow_right (by decide) (by decide))))
 have f0 : t'.fdiv ((Nat.gcd t'.natAbs bo.natAbs : Nat) : Int) ≠ 0 := fun z => by rw [z] at g3; omega
 refine ⟨g1, small, g1, small, by decide, fun r nr => k (_, _) ⟨g5, g6⟩ f0 (bd_le (fdiv_le g1 g3) bt) (bd_le (fdiv_le g1 g4) (Bd.of_lt (m := 1000001) (by omega) (by decide))) r _ (u1.trans (same_upd nr _)) upd_same⟩
theorem ite3 {a b X Y : Prop} [Decidable a] [Decidable b] (h1 : a -> b -> X) (h2 : Y) : if a then (if b then X else Y) else Y := by
 by_cases ha : a
 ·rw [if_pos ha]
  by_cases hb : b
  ·rw [if_pos hb]; exact h1 ha hb
  ·rw [if_neg hb]; exact h2
 ·rw [if_neg ha]; exact h2
theorem PtAt.head {H : Hp} {r : Addr} {p : Prt} (h : PtAt H r p) : ∃ (s : Str) (xs : List V), H r = some (.tup (.str s :: xs)) := by
 match p, h with
 | .cho f l, ⟨a, b, h1, _⟩ => exact ⟨_, _, h1⟩
 | .wei f, ⟨a, h1, _⟩ => exact ⟨_, _, h1⟩
 | .pow f, ⟨a, h1, _⟩ => exact ⟨_, _, h1⟩
 | .gro f, ⟨a, h1, _⟩ => exact ⟨_, _, h1⟩
def spPrt (K : PySem.W.Frag) : Sp := fun vs H Q _ => ∃ (A : Addr) (x y z m : Int), vs = [.ref A, .int m] ∧ H A = some (.lst [.int x, .int y, .int z]) ∧ (m = 3 ∨ m = 0) ∧ ∀ p, PrtOk p -> mkPt H Q p
theorem ok__law_part {P : Program} {w : World} {K : PySem.W.Frag} {mg : Str -> Option Value} {base : Heap} (T : Tx K mg) : FnOk P w K mg base CX0 3 T.a__law_part T.fd__law_part ["_law_cells", "_law_most"] (spPrt K) := by
 refine T.F__law_part.ok sc__law_part (fun vs H Q E h => ?_) (fun cdv A outer s H vs Q E hr h => ?_)
 ·obtain ⟨A, x, y, z, m, rfl, _⟩ := h
  rfl
 obtain ⟨A, x, y, z, m, rfl, hA, hm, k⟩ := h
 refine ⟨_, ((pss_cons (ps_set (i := 2) sc__law_part.nd rfl (Or.inl rfl) (pe_op op_mod (pe_call (FnOk.mono (ok_mixed0 T) (by decide)) hr rfl T.m__law_mixed T.F__law_mixed.kp T.b__law_mixed .nil pass0 (pa_cons (pe_ix ix_list (pv 0) pe_int (fun _ _ => rfl)) (pa_cons pe_int pa_nil))) pe_int))
  (pss_cons (ps_if (PW.pt (pw_and (pt_cmpR op_lt (pv 2) pe_int (nomark _)) (pw_and1 (pt_cmpR op_gt (pv 1) pe_int (nomark _))))) (pss_one (ps_ret (pe_call (FnOk.mono (ok__law_forms T) (by decide)) hr rfl T.m__law_forms T.F__law_forms.kp T.b__law_forms .nil pass0 (pa_cons (pe_call (FnOk.mono (ok_mixed0 T) (by decide)) hr rfl T.m__law_mixed T.F__law_mixed.kp T.b__law_mixed .nil pass0 (pa_cons (pe_ix ix_list (pv 0) pe_int (fun _ _ => rfl)) (pa_cons pe_int pa_nil))) (pa_cons (pe_call (FnOk.mono (ok_mixed0 T) (by decide)) hr rfl T.m__law_mixed T.F__law_mixed.kp T.b__law_mixed .nil pass0 (pa_cons (pe_ix ix_list (pv 0) pe_int (fun _ _ => rfl)) (pa_cons pe_int pa_nil))) (pa_cons (pv 1) pa_nil)))))) pss_nil)
  (pss_cons (ps_if (pt_cmpR op_eq (pv 2) pe_int (nomark _)) (pss_one (ps_ret (pe_tup (pa_cons pe_str (pa_cons (pe_call (FnOk.mono (ok__law_ratio T) (by decide)) hr rfl T.m__law_ratio T.F__law_ratio.kp T.b__law_ratio .nil pass0 (pa_cons (pe_ix ix_list (pv 0) pe_int (fun _ _ => rfl)) (pa_cons (pe_ix ix_list (pv 0) pe_int (fun _ _ => rfl)) pa_nil))) pa_nil))))) pss_nil)
  (pss_cons (ps_if (pt_cmpR op_eq (pv 2) pe_int (nomark _)) (pss_one (ps_ret (pe_tup (pa_cons pe_str (pa_cons (pe_call (FnOk.mono (ok__law_ratio T) (by decide)) hr rfl T.m__law_ratio T.F__law_ratio.kp T.b__law_ratio .nil pass0 (pa_cons (pe_ix ix_list (pv 0) pe_int (fun _ _ => rfl)) (pa_cons (pe_ix ix_list (pv 0) pe_int (fun _ _ => rfl)) pa_nil))) pa_nil))))) pss_nil)
  (pss_one (ps_ret (pe_tup (pa_cons pe_str (pa_cons (pe_callTy call_tuple_of rfl T.z_tuple bt_tuple (pa_cons (pe_lcomp rfl (blkok rfl sub_nil fv_nil) (pi_list (pv 0)) (fun _ _ _ _ => (pe_call (FnOk.mono (ok__law_number T) (by decide)) hr rfl T.m__law_number T.F__law_number.kp T.b__law_number .nil pass0 (pa_cons (pv 0) (pa_cons (pe_op op_pow pe_int pe_int) pa_nil))))) pa_nil)) pa_nil)))))))))), ?_⟩
 dsimp only [a_seq]
 k_typeOf
 refine ⟨_, SqL.of hA, _, rfl, x, 0, rfl, by decide, fun wy w0 => ⟨wy, rfl, by decide, ?_⟩⟩
 dsimp only [a_seq]
 k_typeOf
 refine ite3 (fun _ m0 => ⟨_, SqL.of hA, _, rfl, y, 1, rfl, by decide, fun n1 p1 => ⟨_, SqL.of hA, _, rfl, z, 2, rfl, by decide, fun n2 p2 => ⟨n1, n2, ?_, p1, p2, fun h l c => k (.cho h l) c⟩⟩⟩) ?_
 ·rw [show m = 3 by omega]
 dsimp only [a_seq]
 k_typeOf
 refine ite2 (fun _ => ⟨_, SqL.of hA, _, rfl, _, SqL.of hA, _, rfl, y, z, rfl, fun f h1 h2 h3 h4 a H1 s1 ea => ⟨by decide, fun r nr => ?_⟩⟩) (fun _ => ?_)
 ·exact k (.pow f) ⟨h1, h2, h3, h4⟩ r _ (s1.trans (same_upd nr _)) ⟨a, upd_same, same_upd nr _ _ _ ea⟩
 dsimp only [a_seq]
 k_typeOf
 refine ite2 (fun _ => ⟨_, SqL.of hA, _, rfl, _, SqL.of hA, _, rfl, y, z, rfl, fun f h1 h2 h3 h4 a H1 s1 ea => ⟨by decide, fun r nr => ?_⟩⟩) (fun _ => ?_)
 ·exact k (.gro f) ⟨h1, h2, h3, h4⟩ r _ (s1.trans (same_upd nr _)) ⟨a, upd_same, same_upd nr _ _ _ ea⟩
 k_units
 refine ⟨⟨_, SqL.of hA⟩, fun D nD => ?_⟩
 obtain ⟨Pc, hPc⟩ : ∃ Pc : Nat -> Hp -> Prop, ∀ j Hx, Pc j Hx ↔ ∃ us : List Int, Hx D = some (.lst (us.map V.int)) ∧ us.length = j ∧ (∀ u ∈ us, Bd 300 u) ∧ Same H Hx := ⟨_, fun _ _ => Iff.rfl⟩
 refine cl_list (xs := [V.int x, V.int y, V.int z]) Pc ((hPc _ _).mpr ⟨[], upd_same, rfl, fun u hu => by simp at hu, same_upd nD _⟩) (fun i Hx _ y => by obtain ⟨_, _, _, _, y⟩ := (hPc i Hx).mp y; exact y.seq (SqL.of hA)) ?_ ?_
 ·intro j v Hx hv hc
  obtain ⟨us, k1, k2, k3, k4⟩ := (hPc _ _).mp hc
  obtain ⟨c, rfl, hj⟩ : ∃ c : Int, v = V.int c ∧ j < 3 := by
   match j, hv with
   | 0, hv => exact ⟨x, (Option.some.inj hv).symm, by decide⟩
   | 1, hv => exact ⟨y, (Option.some.inj hv).symm, by decide⟩
   | 2, hv => exact ⟨z, (Option.some.inj hv).symm, by decide⟩
   | j + 3, hv => simp at hv
  (iterate 3 (k_units; (try simp only [bst, Option.getD_some])); k_units)
  refine ⟨⟨by decide, by decide, by decide⟩, c, _, rfl, .inl rfl, fun u hu => ⟨_, k1, by rw [List.length_map]; exact small1000 (by omega), (hPc _ _).mpr ⟨us ++ [u], by rw [upd_same]; simp, by simp [k2], fun v hv => ?_, k4.more nD⟩⟩⟩
  rcases List.mem_append.mp hv with hv | hv
  ·exact k3 v hv
  ·rw [List.mem_singleton.mp hv]
   exact Nat.lt_of_lt_of_le hu (Nat.le_trans (show _ <= 2 ^ 200 by decide) (Nat.pow_le_pow_right (by decide) (by decide)))
 intro Hx hc
 obtain ⟨us, k1, k2, k3, k4⟩ := (hPc _ _).mp hc
 match us, k2 with
 | [a, b, c], _ =>
  refine ⟨D, rfl, _, .inl ⟨SqL.of k1, fun q nq => ⟨by decide, fun r nr => ?_⟩⟩⟩
  have u1 := same_upd nq (.tup ([a, b, c].map V.int))
  exact k (.wei (a, b, c)) ⟨k3 a (by simp), k3 b (by simp), k3 c (by simp)⟩ r _ ((k4.trans u1).trans (same_upd nr _)) ⟨q, upd_same, same_upd nr _ _ _ upd_same⟩
def spPts (K : PySem.W.Frag) : Sp := fun vs H Q _ => ∃ (A M : Addr) (ns : List Int), vs = [.ref A, .ref M] ∧ SqL K H A (ns.map V.int) ∧ H M = some (.lst [.int 3, .int 3, .int 3, .int 3, .int 3, .int 3]) ∧
 ∀ (L : Addr) (rs : List Addr) (ps : List Prt) (H' : Hp), Same H H' -> H L = none -> H' L = some (.lst (rs.map V.ref)) -> Pts H' rs ps -> (∀ p ∈ ps, PrtOk p) -> 1 <= ps.length -> ps.length <= 6 -> Q (.ref L) H'
theorem ok__law_parts {P : Program} {w : World} {K : PySem.W.Frag} {mg : Str -> Option Value} {base : Heap} (T : Tx K mg) : FnOk P w K mg base CX0 4 T.a__law_parts T.fd__law_parts ["_law_script", "_law_mosts"] (spPts K) := by
 refine T.F__law_parts.ok sc__law_parts (fun vs H Q E h => ?_) (fun cdv A outer s H vs Q E hr h => ?_)
 ·obtain ⟨A, M, ns, rfl, _⟩ := h
  rfl
 obtain ⟨A, M, ns, rfl, hA, hM, k⟩ := h
 refine ⟨_, ((pss_cons (ps_set (i := 2) sc__law_parts.nd rfl (Or.inl rfl) (pe_lst pa_nil))
  (pss_cons (ps_for PassesOwn.never rfl (pi_range1 rfl T.z_range (pa_cons (pe_op op_add pe_int (pe_op op_mod (pe_call (FnOk.mono (ok__law_cell_at T) (by decide)) hr rfl T.m__law_cell_at T.F__law_cell_at.kp T.b__law_cell_at .nil pass0 (pa_cons (pv 0) (pa_cons pe_int pa_nil))) pe_int)) pa_nil)) (pg_name (i := 3) sc__law_parts.nd rfl (Or.inr rfl)) (pss_cons (ps_set (i := 4) sc__law_parts.nd rfl (Or.inl rfl) (pe_call (FnOk.mono (ok__law_part T) (by decide)) hr rfl T.m__law_part T.F__law_part.kp T.b__law_part .nil pass0 (pa_cons (pe_lcomp rfl (blkok rfl (sub_cons rfl (sub_cons rfl sub_nil)) (fv_cons 0 "_law_script" (by decide) rfl (Or.inl rfl) (Or.inl rfl) ⟨_, rfl⟩ (fv_cons 3 "_law_k" (by decide) rfl (Or.inl rfl) (Or.inl rfl) ⟨_, rfl⟩ fv_nil))) (pi_range1 rfl T.z_range (pa_cons pe_int pa_nil)) (fun _ _ _ _ => (pe_call (FnOk.mono (ok__law_cell_at T) (by decide)) hr rfl T.m__law_cell_at T.F__law_cell_at.kp T.b__law_cell_at .nil pass0 (pa_cons (pv 1) (pa_cons (pe_op op_add (pe_op op_add pe_int (pe_op op_mul pe_int (pv 2))) (pv 0)) pa_nil))))) (pa_cons (pe_ix ix_list (pv 1) pe_int (fun _ _ => rfl)) pa_nil))))
  (pss_mid (ps_if (pt_cmpR op_eq (pe_ix ix_tup (pv 4) pe_int (fun _ _ => rfl)) pe_str (nomark _)) (pss_one (ps_set (i := 1) sc__law_parts.nd rfl (Or.inl rfl) (pe_op op_cat (pe_slice sl_list (pv 1) (po_some pe_int) po_none) (pe_lst (pa_cons pe_int pa_nil))))) pss_nil)
  (pss_one (ps_expr (pe_bm PySem.F.plainAttrs_list PySem.F.slot_list_append PySem.F.type_list_append mt_append (pv 2) (pa_cons (pv 4) pa_nil)))))))
  (pss_one (ps_ret (pv 2)))))), ?_⟩
 dsimp only [a_seq]
 k_typeOf
 refine ⟨by decide, fun L nL => ?_⟩
 k_units
 have u0 := same_upd nL (.lst [])
 refine ⟨A, ns, 0, rfl, u0.seq hA, _, rfl, by decide, by omega, by omega, ?_⟩
 have i0 := Int.emod_nonneg (cell ns 0) (show (6 : Int) ≠ 0 by decide)
 have i6 := Int.emod_lt_of_pos (cell ns 0) (show (0 : Int) < 6 by decide)
 obtain ⟨N, hN, N1, N6⟩ : ∃ N, (1 + cell ns 0 % 6).toNat = N ∧ 1 <= N ∧ N <= 6 := ⟨_, rfl, by omega, by omega⟩
 rw [hN]
 obtain ⟨Pv, hPv⟩ : ∃ Pv : Nat -> L2.St -> Hp -> Prop, ∀ i σ H', Pv i σ H' ↔ ∃ (rs : List Addr) (ps : List Prt) (M' : Addr) (ms : List Int) (r3 r4 : Option V), σ = [some (V.ref A), some (V.ref M'), some (V.ref L), r3, r4] ∧ H' L = some (.lst (rs.map V.ref)) ∧ Pts H' rs ps ∧ (∀ p ∈ ps, PrtOk p) ∧ ps.length = i ∧ H' M' = some (.lst (ms.map V.int)) ∧ ms.length = 6 ∧ (∀ x ∈ ms, x = 3 ∨ x = 0) ∧ Same H H' ∧ M' ≠ L := ⟨_, fun _ _ _ => Iff.rfl⟩
 have nML : M ≠ L := fun z => by rw [z, nL] at hM; cases hM
 refine lp_range Pv ((hPv _ _ _).mpr ⟨[], [], M, [3, 3, 3, 3, 3, 3], none, none, rfl, upd_same, ⟨rfl, fun i r p e => by simp at e⟩, fun p hp => by simp at hp, rfl, u0 _ _ hM, rfl, fun x hx => by simp at hx; exact .inl hx, u0, nML⟩) ?_ ?_
 ·intro i σ H1 hi hp
  obtain ⟨rs, ps, M', ms, r3, r4, rfl, eL, hP, hO, lp, eM, l6, h30, s1, nML'⟩ := (hPv _ _ _).mp hp
  dsimp only [a_seq]
  k_typeOf
  refine ⟨by decide, by decide, fun D nD => ?_⟩
  obtain ⟨Pc, hPc⟩ : ∃ Pc : Nat -> Hp -> Prop, ∀ j Hx, Pc j Hx ↔ Hx D = some (.lst (((List.range j).map fun j => cell ns (1 + 3 * i + j)).map V.int)) ∧ Same H1 Hx := ⟨_, fun _ _ => Iff.rfl⟩
  refine cl_range Pc ((hPc _ _).mpr ⟨upd_same, same_upd nD _⟩) ?_ ?_
  ·intro j Hx hj hc
   obtain ⟨k1, k2⟩ := (hPc _ _).mp hc
   (iterate 3 (k_units; (try simp only [bst, Option.getD_some])); k_units)
   have e : (1 : Int) + 3 * (0 + (i : Int)) + (0 + (j : Int)) = ((1 + 3 * i + j : Nat) : Int) := by omega
   have hj3 : j < 3 := hj
   refine ⟨.inl ⟨by decide, by decide⟩, A, ns, 1 + 3 * i + j, by rw [e], (s1.trans k2).seq hA, _, k1, by rw [List.length_map, List.length_map, List.length_range]; exact small1000 (by omega), (hPc _ _).mpr ⟨?_, k2.more nD⟩⟩
   rw [upd_same, List.range_succ, List.map_append, List.map_append]; rfl
  intro Hx hc
  obtain ⟨k1, k2⟩ := (hPc _ _).mp hc
  obtain ⟨m0, m1, m2, m3, m4, m5, rfl⟩ : ∃ m0 m1 m2 m3 m4 m5, ms = [m0, m1, m2, m3, m4, m5] := by
   match ms, l6 with
   | [m0, m1, m2, m3, m4, m5], _ => exact ⟨m0, m1, m2, m3, m4, m5, rfl⟩
  refine ⟨_, SqL.of (k2 _ _ eM), _, (show atI ([m0, m1, m2, m3, m4, m5].map V.int) ((0 : Nat) : Int) = some (V.int m0) from atI_nat rfl), D, _, _, _, m0, rfl, k1, h30 m0 (by simp), fun p hp r H2 s2 hr2 => ?_⟩
  have s12 := k2.trans s2
  obtain ⟨M2, hM2⟩ : ∃ M2 : L2.St -> Hp -> Prop, ∀ σ H', M2 σ H' ↔ ∃ (M'' : Addr) (ms : List Int), σ = [some (V.ref A), some (V.ref M''), some (V.ref L), some (V.int (0 + (i : Int))), some (V.ref r)] ∧ H' M'' = some (.lst (ms.map V.int)) ∧ ms.length = 6 ∧ (∀ x ∈ ms, x = 3 ∨ x = 0) ∧ Same H2 H' ∧ M'' ≠ L := ⟨_, fun _ _ => Iff.rfl⟩
  refine mid_of M2 ?_ ?_
  ·obtain ⟨sh, xs, er⟩ := hr2.head
   k_units
   refine ⟨_, SqT.of er, _, (show atI (V.str sh :: xs) ((0 : Nat) : Int) = some (V.str sh) from atI_nat rfl), ?_⟩
   k_units
   refine ite2 (fun _ => ?_) (fun _ => (hM2 _ _).mpr ⟨M', _, rfl, s12 _ _ eM, l6, h30, Same.refl _, nML'⟩)
   have ec : cutV ([m0, m1, m2, m3, m4, m5].map V.int) (some 1) none = [m1, m2, m3, m4, m5].map V.int := rfl
   refine ⟨_, SqL.of (s12 _ _ eM), fun p1 n1 => ⟨by decide, fun p2 n2 => ?_⟩⟩
   rw [ec] at n2 ⊢
   have v1 := same_upd n1 (.lst ([m1, m2, m3, m4, m5].map V.int))
   have v2 := same_upd n2 (.lst [V.int 0])
   refine ⟨_, v2 _ _ upd_same, _, upd_same, by show 5 + 1 <= sizeLine; decide, fun p3 n3 => ?_⟩
   have v3 := same_upd n3 (.lst ([m1, m2, m3, m4, m5].map V.int ++ [V.int 0]))
   have eLx := (v1.trans v2) _ _ (s12 _ _ eL)
   exact (hM2 _ _).mpr ⟨p3, [m1, m2, m3, m4, m5, 0], rfl, upd_same, rfl, fun x hx => by
    simp only [List.mem_cons, List.not_mem_nil, or_false] at hx
    rcases hx with rfl | rfl | rfl | rfl | rfl | rfl
    ·exact h30 _ (by simp)
    ·exact h30 _ (by simp)
    ·exact h30 _ (by simp)
    ·exact h30 _ (by simp)
    ·exact h30 _ (by simp)
    ·exact .inr rfl, (v1.trans v2).trans v3, fun z => by rw [z, eLx] at n3; cases n3⟩
  intro σ H3 hm
  obtain ⟨M'', ms2, rfl, eM2, l62, h302, s3, nML2⟩ := (hM2 _ _).mp hm
  k_units
  have eL3 := s3 _ _ (s12 _ _ eL)
  have kt : ∀ a xs, H1 a = some (.tup xs) -> L2.upd H3 L (.lst (rs.map V.ref ++ [V.ref r])) a = some (.tup xs) := fun a xs e => by
   rw [upd_ne (ne_of e eL (fun z => nomatch z))]; exact s3 _ _ (s12 _ _ e)
  refine ⟨a_tyL (SqL.of eL3), _, eL3, by rw [List.length_map, hP.len]; exact small1000 (by omega), (hPv _ _ _).mpr ⟨rs ++ [r], ps ++ [p], M'', ms2, _, _, rfl, by rw [upd_same, List.map_append]; rfl, ?_, fun p' hp' => ?_, by simp [lp], by rw [upd_ne nML2]; exact eM2, l62, h302, ((s1.trans s12).trans s3).more nL, nML2⟩⟩
  ·refine (hP.kt kt).snoc (hr2.kt fun a xs e => ?_)
   rw [upd_ne (ne_of (s3 _ _ e) eL3 (fun z => nomatch z))]; exact s3 _ _ e
  ·rcases List.mem_append.mp hp' with z | z
   ·exact hO p' z
   ·rw [List.mem_singleton.mp z]; exact hp
 ·intro σ H1 hp
  obtain ⟨rs, ps, M', ms, r3, r4, rfl, eL, hP, hO, lp, eM, l6, h30, s1, nML'⟩ := (hPv _ _ _).mp hp
  k_units
  exact k L rs ps H1 s1 nL eL hP hO (by omega) (by omega)
theorem cut_from (bs : List Addr) (k : Nat) : cutV (bs.map V.ref) (some (k : Int)) none = (bs.drop k).map V.ref := by
 unfold cutV
 rw [HT.sIx_nat, HT.sIx_none, List.length_map, ← List.map_drop, List.take_of_length_le (by rw [List.length_map, List.length_drop]; omega)]
 congr 1
 by_cases z : k <= bs.length
 ·rw [Nat.min_eq_left z]
 ·rw [Nat.min_eq_right (by omega), List.drop_of_length_le (Nat.le_refl _), List.drop_of_length_le (by omega)]
theorem cut_upto (bs : List Addr) (k : Nat) : cutV (bs.map V.ref) none (some (k : Int)) = (bs.take k).map V.ref := by
 unfold cutV
 rw [HT.sIx_nat, HT.sIx_none, List.length_map, List.drop_zero, ← List.map_take]
 congr 1
 by_cases z : k <= bs.length
 ·rw [Nat.min_eq_left z]; rfl
 ·rw [Nat.min_eq_right (by omega), Nat.sub_zero, List.take_of_length_le (Nat.le_refl _), List.take_of_length_le (by omega)]
def d3 (f : Int × Int × Int) : PyData := .tuple [.int f.1, .int f.2.1, .int f.2.2]
def d2 (f : Int × Int) : PyData := .tuple [.int f.1, .int f.2]
def dPt : Prt -> PyData
 | .cho h l => .tuple [.str (Str.ofString "choose"), d3 h, d3 l]
 | .wei f => .tuple [.str (Str.ofString "weight"), d3 f]
 | .pow f => .tuple [.str (Str.ofString "power"), d2 f]
 | .gro f => .tuple [.str (Str.ofString "growth"), d2 f]
def dPts (ps : List Prt) : PyData := .list (ps.map dPt)
theorem dv3 {K : PySem.W.Frag} {H : Hp} {a : Addr} {f : Int × Int × Int} (h : H a = some (T3 f)) : DV K H (.ref a) (d3 f) := .tup (SqT.of h) (.cons (.int _) (.cons (.int _) (.cons (.int _) .nil)))
theorem dv2 {K : PySem.W.Frag} {H : Hp} {a : Addr} {f : Int × Int} (h : H a = some (T2 f)) : DV K H (.ref a) (d2 f) := .tup (SqT.of h) (.cons (.int _) (.cons (.int _) .nil))
theorem dv_pt {K : PySem.W.Frag} {H : Hp} {r : Addr} {p : Prt} (h : PtAt H r p) : DV K H (.ref r) (dPt p) := by
 match p, h with
 | .cho f l, ⟨a, b, h1, h2, h3⟩ => exact .tup (SqT.of h1) (.cons (.str _) (.cons (dv3 h2) (.cons (dv3 h3) .nil)))
 | .wei f, ⟨a, h1, h2⟩ => exact .tup (SqT.of h1) (.cons (.str _) (.cons (dv3 h2) .nil))
 | .pow f, ⟨a, h1, h2⟩ => exact .tup (SqT.of h1) (.cons (.str _) (.cons (dv2 h2) .nil))
 | .gro f, ⟨a, h1, h2⟩ => exact .tup (SqT.of h1) (.cons (.str _) (.cons (dv2 h2) .nil))
theorem dvs_pts {K : PySem.W.Frag} {H : Hp} : ∀ (rs : List Addr) (ps : List Prt), Pts H rs ps -> DVs K H (rs.map V.ref) (ps.map dPt)
 | [], [], _ => .nil
 | r :: rs, p :: ps, h => .cons (dv_pt (h.get 0 r p rfl rfl)) (dvs_pts rs ps ⟨by have := h.len; simpa using this, fun i r p e1 e2 => h.get (i + 1) r p e1 e2⟩)
 | [], _ :: _, h => by have := h.len; simp at this
 | _ :: _, [], h => by have := h.len; simp at this
theorem dv_pts {K : PySem.W.Frag} {H : Hp} {B : Addr} {rs : List Addr} {ps : List Prt} (e : SqL K H B (rs.map V.ref)) (h : Pts H rs ps) : DV K H (.ref B) (dPts ps) := .lst e (dvs_pts rs ps h)
theorem pt_ok (p : Prt) : (dPt p).canLay0 = true ∧ (dPt p).depth <= 60 ∧ PyData.eqv (dPt p) (dPt p) = true := by
 cases p <;> simp [dPt, d3, d2, PyData.canLay0, PyData.canLayAll0, PyData.depth, PyData.depthAll, PyData.eqv, PyData.eqvAll] <;> decide +kernel
theorem pts_ok (ps : List Prt) : (dPts ps).canLay0 = true ∧ (dPts ps).depth <= 64 ∧ PyData.eqv (dPts ps) (dPts ps) = true := by
 have h : PyData.canLayAll0 (ps.map dPt) = true ∧ PyData.depthAll (ps.map dPt) <= 60 ∧ PyData.eqvAll (ps.map dPt) (ps.map dPt) = true := by
  induction ps with
  | nil => exact ⟨rfl, Nat.zero_le _, rfl⟩
  | cons p ps ih =>
   obtain ⟨a, b, c⟩ := pt_ok p
   obtain ⟨i1, i2, i3⟩ := ih
   refine ⟨by simp [PyData.canLayAll0, a, i1], ?_, by simp [PyData.eqvAll, c, i3]⟩
   simp only [List.map_cons, PyData.depthAll]; omega
 obtain ⟨h1, h2, h3⟩ := h
 unfold dPts
 refine ⟨by simp [PyData.canLay0, h1], ?_, by simp [PyData.eqv, h3]⟩
 simp only [PyData.depth]; omega
def dG : Gp -> PyData
 | .pt p => dPt p
 | .wd k true => .tuple [.str (wdS k), d3 (1, 0, 0)]
 | .wd k false => .tuple [.str (wdS k), d2 (1, 2)]
def dGs (gs : List Gp) : PyData := .list (gs.map dG)
def GW : Gp -> Prop
 | .pt _ => True
 | .wd k _ => k < 7
theorem bad_w {g : Gp} (h : GBad g) : GW g := by
 match g, h with
 | .pt _, _ => trivial
 | .wd k _, h => exact h
theorem dv_g {K : PySem.W.Frag} {H : Hp} {r : Addr} {g : Gp} (h : GAt H r g) : DV K H (.ref r) (dG g) := by
 match g, h with
 | .pt p, h => exact dv_pt h
 | .wd k true, ⟨_, a, h1, h2⟩ => exact .tup (SqT.of h1) (.cons (.str _) (.cons (dv3 h2) .nil))
 | .wd k false, ⟨_, a, h1, h2⟩ => exact .tup (SqT.of h1) (.cons (.str _) (.cons (dv2 h2) .nil))
theorem dvs_gs {K : PySem.W.Frag} {H : Hp} : ∀ (rs : List Addr) (gs : List Gp), Gts H rs gs -> DVs K H (rs.map V.ref) (gs.map dG)
 | [], [], _ => .nil
 | r :: rs, p :: ps, h => .cons (dv_g (h.get 0 r p rfl rfl)) (dvs_gs rs ps ⟨by have := h.len; simpa using this, fun i r p e1 e2 => h.get (i + 1) r p e1 e2⟩)
 | [], _ :: _, h => by have := h.len; simp at this
 | _ :: _, [], h => by have := h.len; simp at this
theorem wd_lay : ∀ k < 7, (PyData.canLay0 (.tuple [.str (wdS k), d3 (1, 0, 0)]) = true ∧ PyData.depth (.tuple [.str (wdS k), d3 (1, 0, 0)]) <= 60 ∧ PyData.eqv (.tuple [.str (wdS k), d3 (1, 0, 0)]) (.tuple [.str (wdS k), d3 (1, 0, 0)]) = true) ∧ (PyData.canLay0 (.tuple [.str (wdS k), d2 (1, 2)]) = true ∧ PyData.depth (.tuple [.str (wdS k), d2 (1, 2)]) <= 60 ∧ PyData.eqv (.tuple [.str (wdS k), d2 (1, 2)]) (.tuple [.str (wdS k), d2 (1, 2)]) = true) := by decide +kernel
theorem g_ok {g : Gp} (h : GW g) : (dG g).canLay0 = true ∧ (dG g).depth <= 60 ∧ PyData.eqv (dG g) (dG g) = true := by
 match g, h with
 | .pt p, _ => exact pt_ok p
 | .wd k true, h => exact (wd_lay k h).1
 | .wd k false, h => exact (wd_lay k h).2
theorem gs_ok (gs : List Gp) (hw : ∀ g ∈ gs, GW g) : (dGs gs).canLay0 = true ∧ (dGs gs).depth <= 64 ∧ PyData.eqv (dGs gs) (dGs gs) = true := by
 have h : PyData.canLayAll0 (gs.map dG) = true ∧ PyData.depthAll (gs.map dG) <= 60 ∧ PyData.eqvAll (gs.map dG) (gs.map dG) = true := by
  induction gs with
  | nil => exact ⟨rfl, Nat.zero_le _, rfl⟩
  | cons p ps ih =>
   obtain ⟨a, b, c⟩ := g_ok (hw p (by simp))
   obtain ⟨i1, i2, i3⟩ := ih fun g hg => hw g (by simp [hg])
   refine ⟨by simp [PyData.canLayAll0, a, i1], ?_, by simp [PyData.eqvAll, c, i3]⟩
   simp only [List.map_cons, PyData.depthAll]; omega
 obtain ⟨h1, h2, h3⟩ := h
 unfold dGs
 refine ⟨by simp [PyData.canLay0, h1], ?_, by simp [PyData.eqv, h3]⟩
 simp only [PyData.depth]; omega
theorem mk_term {K : PySem.W.Frag} {mg : Str -> Option Value} {T : Tx K mg} {H : Hp} {Q : Addr -> Hp -> Prop} {E : XK} {A : Addr} {rs : List Addr} {ps : List Prt} (hA : H A = some (.lst (rs.map V.ref))) (hP : Pts H rs ps) (hO : ∀ p ∈ ps, PrtOk p) (l1 : 1 <= ps.length) (l6 : ps.length <= 6)
  (k : ∀ (x : Addr) (H' : Hp), Same H H' -> TermAt T H H' x rs ps -> Q x H') (x dx : Addr) (hx : H x = none) (hd : H dx = none) (_ : dx ≠ x) :
  spTInit T [.ref x, .ref A] (L2.upd (L2.upd H dx (.own x)) x (.ins T.c_Term dx [])) (fun v H2 => v = V.non ∧ Q x H2) E := by
 have s1 : Same H (L2.upd (L2.upd H dx (.own x)) x (.ins T.c_Term dx [])) := same_new hx hd
 refine ⟨x, dx, A, rs, _, rfl, upd_same, s1 _ _ hA, (hP.on s1).g, .inl ⟨ps, rfl, hO, l1, l6, fun P1 P2 qs H' s2 n1 n2 ex e1 e2 hq => ⟨rfl, ?_⟩⟩⟩
 have s3 : Same H H' := fun y o e => s2 y o (ne_of_none e hx) (s1 y o e)
 exact k x H' s3 ⟨dx, P1, P2, qs, ex, s1.free n1, e1, s1.free n2, e2, hq.from fun y e => s1.free e⟩
def KB (a : Addr) (H H' : Hp) : Prop := ∀ y o, y ≠ a -> H y = some o -> H' y = some o
theorem KB.on {a : Addr} {H H1 H2 : Hp} (k : KB a H H1) (s : Same H1 H2) : KB a H H2 := fun y o n e => s _ _ (k y o n e)
theorem KB.set {a : Addr} {H H1 : Hp} {o : HO} (k : KB a H H1) : KB a H (L2.upd H1 a o) := fun y o n e => by rw [upd_ne n]; exact k y o n e
theorem KB.of {a : Addr} {H H1 : Hp} (s : Same H H1) : KB a H H1 := fun y o _ e => s y o e
theorem KB.kt {a : Addr} {H H1 : Hp} {zs : List V} (k : KB a H H1) (h : H a = some (.lst zs)) : ∀ y xs, H y = some (.tup xs) -> H1 y = some (.tup xs) := fun y xs e => k y _ (ne_of e h (fun z => nomatch z)) e
theorem KB.same {a : Addr} {H H1 : Hp} {o : HO} (k : KB a H H1) (h : H a = some o) (h1 : H1 a = some o) : Same H H1 := fun y u e => by
 by_cases hy : y = a
 ·subst hy; rw [h] at e; cases e; exact h1
 ·exact k y u hy e
theorem ixN_nat {n j : Nat} (h : j < n) : ixN n (j : Int) = some j := by
 unfold ixN
 rw [if_pos (by omega), if_pos (by omega), Int.toNat_natCast]
theorem set_cut {rs : List Addr} {a : Nat} {b : Addr} (h : a < rs.length) : (rs.map V.ref).set a (V.ref b) = (rs.take a ++ b :: rs.drop (a + 1)).map V.ref := by
 rw [List.set_eq_take_append_cons_drop, if_pos (by rw [List.length_map]; exact h), List.map_append, List.map_cons, List.map_take, List.map_drop]
theorem ins_cut {rs : List Addr} {a : Nat} {b : Addr} : (rs.map V.ref).take a ++ V.ref b :: (rs.map V.ref).drop a = (rs.take a ++ b :: rs.drop a).map V.ref := by
 rw [List.map_append, List.map_cons, List.map_take, List.map_drop]
theorem at_cut {rs : List Addr} {a d : Nat} {b : Addr} (h : a < rs.length) : ((rs.take a ++ b :: rs.drop d).map V.ref)[a]? = some (V.ref b) := by
 have e : (rs.take a).length = a := by rw [List.length_take]; omega
 rw [List.getElem?_map, List.getElem?_append_right (by omega), e, Nat.sub_self]; rfl
theorem er_cut {rs : List Addr} {a d : Nat} {b : Addr} (h : a < rs.length) : ((rs.take a ++ b :: rs.drop d).map V.ref).eraseIdx a = (rs.take a ++ rs.drop d).map V.ref := by
 have e : ((rs.take a).map V.ref).length = a := by rw [List.length_map, List.length_take]; omega
 rw [List.map_append, List.map_cons, List.eraseIdx_append_of_length_le (by omega), e, Nat.sub_self, List.map_append]; rfl
theorem re_cut {rs : List Addr} {a : Nat} (h : a < rs.length) : ((rs.take a ++ rs.drop (a + 1)).map V.ref).take a ++ V.ref rs[a] :: ((rs.take a ++ rs.drop (a + 1)).map V.ref).drop a = rs.map V.ref := by
 have e : (rs.take a).length = a := by rw [List.length_take]; omega
 rw [← List.map_take, ← List.map_drop, List.take_append_of_le_length (by omega), List.drop_append_of_le_length (by omega), List.take_of_length_le (by omega), List.drop_of_length_le (by omega), List.nil_append, ← List.map_cons, ← List.map_append, ← List.drop_eq_getElem_cons h, List.take_append_drop]
def spSpl {K : PySem.W.Frag} {mg : Str -> Option Value} (T : Tx K mg) : Sp := fun vs H Q _ => ∃ (Hd L : Addr) (c : Int) (rs : List Addr) (ps : List Prt), vs = [.ref Hd, .ref L, .int c] ∧ L ≠ Hd ∧ H Hd = some (.lst (rs.map V.ref)) ∧ H L = some (.lst (rs.map V.ref)) ∧ Pts H rs ps ∧ (∀ p ∈ ps, PrtOk p) ∧ 1 <= ps.length ∧ ps.length <= 6 ∧ ∀ H', Same H H' -> Q (.bl true) H'
theorem ok__law_spoiled {P : Program} {w : World} {K : PySem.W.Frag} {mg : Str -> Option Value} {base : Heap} (T : Tx K mg) : FnOk P w K mg base CX0 10 T.a__law_spoiled T.fd__law_spoiled ["_law_handed", "_law_parts_here", "_law_cell"] (spSpl T) := by
 refine T.F__law_spoiled.ok sc__law_spoiled (fun vs H Q E h => ?_) (fun cdv A outer s H vs Q E hr h => ?_)
 ·obtain ⟨Hd, L, c, rs, ps, rfl, _⟩ := h
  rfl
 obtain ⟨Hd, L, c, rs, ps, rfl, nLH, hHd, hL, hP, hO, l1, l6, fin⟩ := h
 refine ⟨_, ((pss_cons (ps_set (i := 3) sc__law_spoiled.nd rfl (Or.inl rfl) (pe_call (FnOk.mono (ok__law_mixed T) (by decide)) hr rfl T.m__law_mixed T.F__law_mixed.kp T.b__law_mixed .nil pass0 (pa_cons (pv 2) (pa_cons pe_int pa_nil))))
  (pss_cons (ps_set (i := 4) sc__law_spoiled.nd rfl (Or.inl rfl) (pe_op op_mod (pe_op op_fdiv (pv 3) pe_int) (pe_callB call_len_seq rfl T.z_len bt_len (pa_cons (pv 1) pa_nil))))
  (pss_mid (ps_if (PW.pt (pw_and (pt_cmpR op_eq (pe_op op_mod (pv 3) pe_int) pe_int (nomark _)) (pw_and1 (pt_cmpR op_lt (pe_callB call_len_seq rfl T.z_len bt_len (pa_cons (pv 1) pa_nil)) pe_int (nomark _))))) (pss_one (ps_expr (pe_bm PySem.F.plainAttrs_list PySem.F.slot_list_insert PySem.F.type_list_insert mt_insert (pv 0) (pa_cons (pv 4) (pa_cons (pe_call (FnOk.mono (ok__law_no_part T) (by decide)) hr rfl T.m__law_no_part T.F__law_no_part.kp T.b__law_no_part .nil pass0 (pa_cons (pv 2) pa_nil)) pa_nil))))) (pss_one (ps_asg (pe_call (FnOk.mono (ok__law_no_part T) (by decide)) hr rfl T.m__law_no_part T.F__law_no_part.kp T.b__law_no_part .nil pass0 (pa_cons (pv 2) pa_nil)) (pg_sub (pv 0) (pv 4) set_list))))
  (pss_mid (ps_if (pt_cmpR op_gt (pe_callB call_len_seq rfl T.z_len bt_len (pa_cons (pv 0) pa_nil)) (pe_callB call_len_seq rfl T.z_len bt_len (pa_cons (pv 1) pa_nil)) (nomark _)) (pss_one (ps_set (i := 5) sc__law_spoiled.nd rfl (Or.inl rfl) (pe_op op_cat (pe_op op_cat (pe_slice sl_list (pv 1) po_none (po_some (pv 4))) (pe_lst (pa_cons (pe_call (FnOk.mono (ok__law_no_part T) (by decide)) hr rfl T.m__law_no_part T.F__law_no_part.kp T.b__law_no_part .nil pass0 (pa_cons (pv 2) pa_nil)) pa_nil))) (pe_slice sl_list (pv 1) (po_some (pv 4)) po_none)))) (pss_one (ps_set (i := 5) sc__law_spoiled.nd rfl (Or.inl rfl) (pe_op op_cat (pe_op op_cat (pe_slice sl_list (pv 1) po_none (po_some (pv 4))) (pe_lst (pa_cons (pe_call (FnOk.mono (ok__law_no_part T) (by decide)) hr rfl T.m__law_no_part T.F__law_no_part.kp T.b__law_no_part .nil pass0 (pa_cons (pv 2) pa_nil)) pa_nil))) (pe_slice sl_list (pv 1) (po_some (pe_op op_add (pv 4) pe_int)) po_none)))))
  (pss_cons (ps_if (PW.pt (pw_or (pt_not (pt_val (pe_call (FnOk.mono (ok__law_refused T) (by decide)) hr rfl T.m__law_refused T.F__law_refused.kp T.b__law_refused .nil pass0 (pa_cons (pv 0) pa_nil)))) (pw_or (pt_not (pt_val (pe_call (FnOk.mono (ok__law_refused T) (by decide)) hr rfl T.m__law_refused T.F__law_refused.kp T.b__law_refused .nil pass0 (pa_cons (pv 0) pa_nil)))) (pw_or1 (pt_cmpR (op_neD hr.units) (pv 0) (pv 5) (nomark _)))))) (pss_one (ps_ret pe_bl)) pss_nil)
  (pss_cons (ps_expr (pe_bm PySem.F.plainAttrs_list PySem.F.slot_list_pop PySem.F.type_list_pop mt_popAt (pv 0) (pa_cons (pv 4) pa_nil)))
  (pss_mid (ps_if (pt_cmpR op_lt (pe_callB call_len_seq rfl T.z_len bt_len (pa_cons (pv 0) pa_nil)) (pe_callB call_len_seq rfl T.z_len bt_len (pa_cons (pv 1) pa_nil)) (nomark _)) (pss_one (ps_expr (pe_bm PySem.F.plainAttrs_list PySem.F.slot_list_insert PySem.F.type_list_insert mt_insert (pv 0) (pa_cons (pv 4) (pa_cons (pe_ix ix_list (pv 1) (pv 4) (fun _ _ => rfl)) pa_nil))))) pss_nil)
  (pss_one (ps_ret (pe_and (pe_cmpR (op_eqD hr.units) (pe_meth0 (pe_make T.mk_Term (FnOk.mono (ok_Term___init__ T) (by decide)) hr rfl T.mc_Term T.b_Term___init__ .nil passF (pa_cons (pv 0) pa_nil)) T.cl_Term T.me_Term_told (FnOk.mono (ok_Term_told T) (by decide)) hr T.b_Term_told .nil pass0) (pv 1) (nomark _)) (pe_one (pe_cmpR (op_eqD hr.units) (pv 0) (pv 1) (nomark _)))))))))))))), ?_⟩
 have lr := hP.len
 have lrm : (rs.map V.ref).length = ps.length := by rw [List.length_map]; exact lr
 have hbad := noP_bad c
 have h0 := mixV_nn c 10
 dsimp only [a_seq]
 k_typeOf
 refine ⟨c, 10, rfl, by decide, ?_⟩
 generalize mixV c 10 = m at h0 ⊢
 dsimp only [a_seq]
 k_typeOf
 refine ⟨⟨by decide, by decide⟩, _, .inl (SqL.of hL), by rw [lrm]; omega, ?_⟩
 rw [lrm]
 obtain ⟨a, ha, al⟩ : ∃ a : Nat, m / 2 % (ps.length : Int) = (a : Int) ∧ a < ps.length := by
  have e1 := Int.emod_nonneg (m / 2) (show (ps.length : Int) ≠ 0 by omega)
  have e2 := Int.emod_lt_of_pos (m / 2) (show (0 : Int) < (ps.length : Int) by omega)
  exact ⟨(m / 2 % (ps.length : Int)).toNat, by omega, by omega⟩
 rw [ha]
 clear ha
 obtain ⟨M, hM⟩ : ∃ M : L2.St -> Hp -> Prop, ∀ σ H', M σ H' ↔ ∃ (b : Addr) (d : Nat), σ = [some (V.ref Hd), some (V.ref L), some (V.int c), some (V.int m), some (V.int (a : Int)), none] ∧ GAt H' b (noP c) ∧ KB Hd H H' ∧ (d = a ∧ ps.length < 6 ∨ d = a + 1) ∧ H' Hd = some (.lst ((rs.take a ++ b :: rs.drop d).map V.ref)) := ⟨_, fun _ _ => Iff.rfl⟩
 refine mid_of M ?_ ?_
 ·k_units
  have rep : spNo [V.int c] H (fun x H1 => ∃ x_1, H1 Hd = some (HO.lst x_1) ∧ ∃ x_2, ixN x_1.length (a : Int) = some x_2 ∧ M [some (V.ref Hd), some (V.ref L), some (V.int c), some (V.int m), some (V.int (a : Int)), none] (L2.upd H1 Hd (HO.lst (x_1.set x_2 x)))) E0 :=
   ⟨c, rfl, fun b H1 s1 hb => ⟨_, s1 _ _ hHd, a, ixN_nat (by rw [lrm]; exact al), (hM _ _).mpr ⟨b, a + 1, rfl, hb.kt (KB.kt (KB.set (KB.of (Same.refl _))) (s1 _ _ hHd)), (KB.of s1).set, .inr rfl, by rw [upd_same, set_cut (by omega)]⟩⟩⟩
  refine ⟨by decide, ite2 (fun _ => ⟨_, .inl (SqL.of hL), ?_⟩) (fun _ => rep)⟩
  rw [lrm]
  refine ite2 (fun z => ⟨a_tyL (SqL.of hHd), c, rfl, fun b H1 s1 hb => ⟨_, a, rfl, s1 _ _ hHd, by rw [lrm]; omega, by rw [lrm]; omega, (hM _ _).mpr ⟨b, a, rfl, hb.kt (KB.kt (KB.set (KB.of (Same.refl _))) (s1 _ _ hHd)), (KB.of s1).set, .inl ⟨rfl, by omega⟩, by rw [upd_same, ins_cut]⟩⟩⟩) (fun _ => rep)
 intro σ H1 hm
 obtain ⟨b, d, rfl, hb, kb, hd, eH⟩ := (hM _ _).mp hm
 clear hm hM M
 have eL := kb _ _ nLH hL
 have hP1 := hP.kt (kb.kt hHd)
 have lh : ∀ b : Addr, (rs.take a ++ b :: rs.drop d).length = a + 1 + (ps.length - d) := fun b => by rw [List.length_append, List.length_take, List.length_cons, List.length_drop, lr]; omega
 have hd2 : d <= ps.length := by omega
 obtain ⟨M, hM⟩ : ∃ M : L2.St -> Hp -> Prop, ∀ σ H', M σ H' ↔ ∃ (b2 D : Addr), σ = [some (V.ref Hd), some (V.ref L), some (V.int c), some (V.int m), some (V.int (a : Int)), some (V.ref D)] ∧ GAt H' b2 (noP c) ∧ Same H1 H' ∧ H' D = some (.lst ((rs.take a ++ b2 :: rs.drop d).map V.ref)) := ⟨_, fun _ _ => Iff.rfl⟩
 refine mid_of M ?_ ?_
 ·k_units
  refine ⟨_, .inl (SqL.of eH), _, .inl (SqL.of eL), ?_⟩
  rw [lrm, List.length_map, lh b]
  have sz : ∀ n : Nat, n <= 20 -> n <= sizeLine := fun n h => Nat.le_trans h (by decide)
  rcases hd with ⟨rfl, _⟩ | rfl
  ·rw [if_pos (by omega)]
   refine ⟨_, SqL.of eL, fun q1 m1 => ?_⟩
   rw [cut_upto]
   have v1 := same_upd m1 (.lst ((rs.take d).map V.ref))
   refine ⟨c, rfl, fun b2 G sG hb2 => ⟨by decide, fun q2 m2 => ⟨_, same_upd m2 _ _ _ (sG _ _ upd_same), _, upd_same, sz _ (by rw [List.length_map, List.length_take]; simp; omega), fun q3 m3 => ?_⟩⟩⟩
   have v2 := same_upd m2 (.lst [V.ref b2])
   have v3 := same_upd m3 (.lst ((rs.take d).map V.ref ++ [V.ref b2]))
   have e3 := upd_same (H := L2.upd G q2 (.lst [V.ref b2])) (a := q3) (o := .lst ((rs.take d).map V.ref ++ [V.ref b2]))
   have hb3 := hb2.on (v2.trans v3)
   have s3 := (v1.trans sG).trans (v2.trans v3)
   generalize L2.upd (L2.upd G q2 (.lst [V.ref b2])) q3 (.lst ((rs.take d).map V.ref ++ [V.ref b2])) = G3 at e3 hb3 s3 ⊢
   refine ⟨_, SqL.of (s3 _ _ eL), fun q4 m4 => ?_⟩
   rw [cut_from]
   have v4 := same_upd m4 (.lst ((rs.drop d).map V.ref))
   refine ⟨_, v4 _ _ e3, _, upd_same, sz _ (by rw [List.length_append, List.length_map, List.length_map, List.length_take, List.length_drop]; simp; omega), fun q5 m5 => (hM _ _).mpr ⟨b2, q5, rfl, hb3.on (v4.trans (same_upd m5 _)), s3.trans (v4.trans (same_upd m5 _)), by rw [upd_same]; simp⟩⟩
  ·rw [if_neg (by omega), show ((a : Int) + 1) = ((a + 1 : Nat) : Int) by omega]
   refine ⟨_, SqL.of eL, fun q1 m1 => ?_⟩
   rw [cut_upto]
   have v1 := same_upd m1 (.lst ((rs.take a).map V.ref))
   refine ⟨c, rfl, fun b2 G sG hb2 => ⟨by decide, fun q2 m2 => ⟨_, same_upd m2 _ _ _ (sG _ _ upd_same), _, upd_same, sz _ (by rw [List.length_map, List.length_take]; simp; omega), fun q3 m3 => ?_⟩⟩⟩
   have v2 := same_upd m2 (.lst [V.ref b2])
   have v3 := same_upd m3 (.lst ((rs.take a).map V.ref ++ [V.ref b2]))
   have e3 := upd_same (H := L2.upd G q2 (.lst [V.ref b2])) (a := q3) (o := .lst ((rs.take a).map V.ref ++ [V.ref b2]))
   have hb3 := hb2.on (v2.trans v3)
   have s3 := (v1.trans sG).trans (v2.trans v3)
   generalize L2.upd (L2.upd G q2 (.lst [V.ref b2])) q3 (.lst ((rs.take a).map V.ref ++ [V.ref b2])) = G3 at e3 hb3 s3 ⊢
   refine ⟨_, SqL.of (s3 _ _ eL), fun q4 m4 => ?_⟩
   rw [cut_from]
   have v4 := same_upd m4 (.lst ((rs.drop (a + 1)).map V.ref))
   refine ⟨_, v4 _ _ e3, _, upd_same, sz _ (by rw [List.length_append, List.length_map, List.length_map, List.length_take, List.length_drop]; simp; omega), fun q5 m5 => (hM _ _).mpr ⟨b2, q5, rfl, hb3.on (v4.trans (same_upd m5 _)), s3.trans (v4.trans (same_upd m5 _)), by rw [upd_same]; simp⟩⟩
 intro σ H2 hm
 obtain ⟨b2, D, rfl, hb2, s2, eD⟩ := (hM _ _).mp hm
 clear hm hM M
 have gts : ∀ (b : Addr) (H' : Hp), Same H1 H' -> GAt H' b (noP c) -> Gts H' (rs.take a ++ b :: rs.drop d) ((ps.map Gp.pt).take a ++ noP c :: (ps.map Gp.pt).drop d) := fun b H' s' h => ((hP1.on s').g.take a).app (.cons h ((hP1.on s').g.drop d))
 have bad : BadL ((ps.map Gp.pt).take a ++ noP c :: (ps.map Gp.pt).drop d) := by
  refine .inr (.inr ⟨fun g hg => ?_, noP c, by simp, hbad⟩)
  have ok : ∀ g ∈ ps.map Gp.pt, GOk g := fun g hg => by
   obtain ⟨p, hp, rfl⟩ := List.mem_map.mp hg
   exact hO p hp
  rcases List.mem_append.mp hg with z | z
  ·exact .inl (ok g (List.mem_of_mem_take z))
  ·rcases List.mem_cons.mp z with z | z
   ·rw [z]; exact .inr hbad
   ·exact .inl (ok g (List.mem_of_mem_drop z))
 have gw : ∀ g ∈ (ps.map Gp.pt).take a ++ noP c :: (ps.map Gp.pt).drop d, GW g := fun g hg => by
  have ok : ∀ g ∈ ps.map Gp.pt, GW g := fun g hg => by
   obtain ⟨p, hp, rfl⟩ := List.mem_map.mp hg
   exact trivial
  rcases List.mem_append.mp hg with z | z
  ·exact ok g (List.mem_of_mem_take z)
  ·rcases List.mem_cons.mp z with z | z
   ·rw [z]; exact bad_w hbad
   ·exact ok g (List.mem_of_mem_drop z)
 obtain ⟨y1, y2, y3⟩ := gs_ok _ gw
 dsimp only [a_seq]
 k_typeOf
 refine ⟨Hd, _, _, rfl, s2 _ _ eH, gts b H2 s2 (hb.on s2), bad, fun H3 s3 => ⟨true, rfl, ?_⟩⟩
 rw [if_neg (by decide)]
 refine ⟨Hd, _, _, rfl, s3 _ _ (s2 _ _ eH), gts b H3 (s2.trans s3) ((hb.on s2).on s3), bad, fun H4 s4 => ⟨true, rfl, ?_⟩⟩
 rw [if_neg (by decide)]
 have s14 := s2.trans (s3.trans s4)
 refine ⟨_, .lst (SqL.of (s14 _ _ eH)) (dvs_gs _ _ (gts b H4 s14 (hb.on s14))), _, .lst (SqL.of ((s3.trans s4) _ _ eD)) (dvs_gs _ _ (gts b2 H4 s14 (hb2.on (s3.trans s4)))), y1, y1, y2, ?_⟩
 rw [show PyData.eqv (.list _) (.list _) = true from y3, if_neg (by decide)]
 clear eD hb2 y1 y2 y3
 have eH4 := s14 _ _ eH
 have kb4 := kb.on s14
 clear eH
 dsimp only [a_seq]
 k_typeOf
 have hlen : ((rs.take a ++ b :: rs.drop d).map V.ref).length = a + 1 + (ps.length - d) := by rw [List.length_map]; exact lh b
 refine ⟨a_tyL (SqL.of eH4), _, eH4, by omega, by omega, a, (ixN_seq (ixN_nat (by omega))).1, _, at_cut (by omega), ?_⟩
 rw [er_cut (by omega)]
 have kb5 := kb4.set (o := .lst ((rs.take a ++ rs.drop d).map V.ref))
 have eH5 := upd_same (H := H4) (a := Hd) (o := .lst ((rs.take a ++ rs.drop d).map V.ref))
 generalize L2.upd H4 Hd (.lst ((rs.take a ++ rs.drop d).map V.ref)) = H5 at kb5 eH5 ⊢
 clear kb4 eH4 s14 s2 s3 s4 gts bad gw kb hb hP1 eL hlen lh
 have eL := kb5 _ _ nLH hL
 obtain ⟨M, hM⟩ : ∃ M : L2.St -> Hp -> Prop, ∀ σ H', M σ H' ↔ σ = [some (V.ref Hd), some (V.ref L), some (V.int c), some (V.int m), some (V.int (a : Int)), some (V.ref D)] ∧ KB Hd H H' ∧ H' Hd = some (.lst (rs.map V.ref)) := ⟨_, fun _ _ => Iff.rfl⟩
 refine mid_of M ?_ ?_
 ·k_units
  refine ⟨_, .inl (SqL.of eH5), _, .inl (SqL.of eL), ?_⟩
  rw [lrm, List.length_map, List.length_append, List.length_take, List.length_drop, lr]
  rcases hd with ⟨rfl, _⟩ | rfl
  ·rw [if_neg (by omega)]
   rw [List.take_append_drop] at eH5
   exact (hM _ _).mpr ⟨rfl, kb5, eH5⟩
  ·rw [if_pos (by omega)]
   have ha : a < rs.length := by omega
   have hsz : ((rs.take a ++ rs.drop (a + 1)).map V.ref).length = ps.length - 1 := by rw [List.length_map, List.length_append, List.length_take, List.length_drop, lr]; omega
   refine ⟨a_tyL (SqL.of eH5), _, SqL.of eL, _, atI_nat (by rw [List.getElem?_map, List.getElem?_eq_getElem ha]; rfl), _, a, rfl, eH5, by omega, by omega, (hM _ _).mpr ⟨rfl, kb5.set, by rw [upd_same, re_cut ha]⟩⟩
 intro σ H6 hm
 obtain ⟨rfl, kb6, eH6⟩ := (hM _ _).mp hm
 have s6 := kb6.same hHd eH6
 have hP6 := hP.on s6
 have eL6 := s6 _ _ hL
 obtain ⟨y1, y2, y3⟩ := pts_ok ps
 have dv : ∀ (H' : Hp) (B : Addr), Same H6 H' -> H' B = some (.lst (rs.map V.ref)) -> DV K H' (.ref B) (dPts ps) := fun H' B w e => dv_pts (SqL.of e) (hP6.on w)
 k_units
 refine mk_term eH6 hP6 hO l1 l6 fun x H7 s7 hx => ?_
 obtain ⟨dx, Q1, Q2, qs, h1, h2⟩ := id hx
 refine ⟨dx, _, h1, rfl, x, H6, rs, ps, rfl, hx, fun R H8 s8 nR eR => ?_⟩
 have s68 := s7.trans s8
 refine ⟨_, dv H8 R s68 eR, _, dv H8 L s68 (s68 _ _ eL6), y1, y1, y2, ?_⟩
 rw [y3, if_pos rfl]
 refine ⟨_, dv H8 Hd s68 (s68 _ _ eH6), _, dv H8 L s68 (s68 _ _ eL6), y1, y1, y2, ?_⟩
 rw [y3]
 exact fin H8 (s6.trans s68)
def spLaw (K : PySem.W.Frag) : Sp := fun vs H Q _ => ∃ (a : Addr) (ns : List Int), vs = [.ref a] ∧ SqL K H a (ns.map V.int) ∧ ns.length <= 63 ∧ ∀ H', Q (.bl true) H'
theorem ok_law {P : Program} {w : World} {K : PySem.W.Frag} {mg : Str -> Option Value} {base : Heap} (T : Tx K mg) : FnOk P w K mg base CX0 12 T.a_law T.fd_law ["_law_script"] (spLaw K) := by
 refine T.F_law.ok sc_law (fun vs H Q E h => ?_) (fun cdv A outer s H vs Q E hr h => ?_)
 ·obtain ⟨a, ns, rfl, _⟩ := h
  rfl
 obtain ⟨A, ns, rfl, hA, hns, q⟩ := h
 refine ⟨_, ((pss_cons (ps_set (i := 1) sc_law.nd rfl (Or.inl rfl) (pe_call (FnOk.mono (ok__law_parts T) (by decide)) hr rfl T.m__law_parts T.F__law_parts.kp T.b__law_parts .nil pass0 (pa_cons (pv 0) (pa_cons (pe_lst (pa_cons pe_int (pa_cons pe_int (pa_cons pe_int (pa_cons pe_int (pa_cons pe_int (pa_cons pe_int pa_nil))))))) pa_nil))))
  (pss_cons (ps_set (i := 2) sc_law.nd rfl (Or.inl rfl) (pe_callTy call_list_of rfl T.z_list bt_list (pa_cons (pv 1) pa_nil)))
  (pss_cons (ps_if (PW.pt (pw_or (pt_cmpR (op_neD hr.units) (pe_meth0 (pe_make T.mk_Term (FnOk.mono (ok_Term___init__ T) (by decide)) hr rfl T.mc_Term T.b_Term___init__ .nil passF (pa_cons (pv 2) pa_nil)) T.cl_Term T.me_Term_told (FnOk.mono (ok_Term_told T) (by decide)) hr T.b_Term_told .nil pass0) (pv 1) (nomark _)) (pw_or1 (pt_not (pt_val (pe_call (FnOk.mono (ok__law_refused T) (by decide)) hr rfl T.m__law_refused T.F__law_refused.kp T.b__law_refused .nil pass0 (pa_cons (pe_lst pa_nil) pa_nil))))))) (pss_one (ps_ret pe_bl)) pss_nil)
  (pss_cons (ps_for PassesOwn.never rfl (pi_list (pe_slice sl_list (pv 0) (po_some pe_int) (po_some pe_int))) (pg_name (i := 3) sc_law.nd rfl (Or.inl rfl)) (pss_one (ps_if (pt_not (pt_val (pe_call (FnOk.mono (ok__law_spoiled T) (by decide)) hr rfl T.m__law_spoiled T.F__law_spoiled.kp T.b__law_spoiled .nil pass0 (pa_cons (pv 2) (pa_cons (pv 1) (pa_cons (pv 3) pa_nil)))))) (pss_one (ps_ret pe_bl)) pss_nil)))
  (pss_cons (ps_set (i := 4) sc_law.nd rfl (Or.inl rfl) (pe_op op_add pe_int (pe_op op_mod (pe_call (FnOk.mono (ok__law_mixed T) (by decide)) hr rfl T.m__law_mixed T.F__law_mixed.kp T.b__law_mixed .nil pass0 (pa_cons (pe_call (FnOk.mono (ok__law_cell_at T) (by decide)) hr rfl T.m__law_cell_at T.F__law_cell_at.kp T.b__law_cell_at .nil pass0 (pa_cons (pv 0) (pa_cons pe_int pa_nil))) (pa_cons pe_int pa_nil))) pe_int)))
  (pss_cons (ps_while PassesOwn.never (pt_cmpR op_lt (pe_callB call_len_seq rfl T.z_len bt_len (pa_cons (pv 2) pa_nil)) (pv 4) (nomark _)) (pss_one (ps_expr (pe_bm PySem.F.plainAttrs_list PySem.F.slot_list_append PySem.F.type_list_append mt_append (pv 2) (pa_cons (pe_ix ix_list (pv 1) (pe_op op_mod (pe_callB call_len_seq rfl T.z_len bt_len (pa_cons (pv 2) pa_nil)) (pe_callB call_len_seq rfl T.z_len bt_len (pa_cons (pv 1) pa_nil))) (fun _ _ => rfl)) pa_nil)))))
  (pss_cons (ps_if (pt_not (pt_val (pe_call (FnOk.mono (ok__law_refused T) (by decide)) hr rfl T.m__law_refused T.F__law_refused.kp T.b__law_refused .nil pass0 (pa_cons (pv 2) pa_nil)))) (pss_one (ps_ret pe_bl)) pss_nil)
  (pss_cons (ps_while PassesOwn.never (pt_cmpR op_gt (pe_callB call_len_seq rfl T.z_len bt_len (pa_cons (pv 2) pa_nil)) pe_int (nomark _)) (pss_one (ps_expr (pe_bm0 PySem.F.plainAttrs_list PySem.F.slot_list_pop PySem.F.type_list_pop mt_pop (pv 2)))))
  (pss_one (ps_ret (pe_cmpR (op_eqD hr.units) (pe_meth0 (pe_make T.mk_Term (FnOk.mono (ok_Term___init__ T) (by decide)) hr rfl T.mc_Term T.b_Term___init__ .nil passF (pa_cons (pv 2) pa_nil)) T.cl_Term T.me_Term_told (FnOk.mono (ok_Term_told T) (by decide)) hr T.b_Term_told .nil pass0) (pv 2) (nomark _))))))))))))), ?_⟩
 dsimp only [a_seq]
 k_typeOf
 refine ⟨by decide, fun p0 n0 => ?_⟩
 have w0 := same_upd n0 (.lst [V.int 3, V.int 3, V.int 3, V.int 3, V.int 3, V.int 3])
 refine ⟨A, p0, ns, rfl, w0.seq hA, upd_same, fun L rs ps H1 w1 nL eL hP hO l1 l6 => ?_⟩
 have s1 := w0.trans w1
 clear w0 w1 nL
 dsimp only [a_seq]
 k_typeOf
 refine ⟨_, .inl (SqL.of eL), fun B nB => ?_⟩
 have w2 := same_upd nB (.lst (rs.map V.ref))
 have eB := upd_same (H := H1) (a := B) (o := .lst (rs.map V.ref))
 have nLB : L ≠ B := fun z => by rw [z, nB] at eL; cases eL
 have hA2 := (s1.trans w2).seq hA
 have eL2 := w2 _ _ eL
 have hP2 := hP.on w2
 generalize L2.upd H1 B (.lst (rs.map V.ref)) = H2 at w2 eB hA2 eL2 hP2 ⊢
 clear nB s1 hA eL hP w2
 obtain ⟨y1, y2, y3⟩ := pts_ok ps
 have lr := hP2.len
 dsimp only [a_seq]
 k_typeOf
 refine mk_term eB hP2 hO l1 l6 fun x H3 s3 hx => ?_
 obtain ⟨dx, Q1, Q2, qs, h1, h2⟩ := id hx
 refine ⟨dx, _, h1, rfl, x, H2, rs, ps, rfl, hx, fun R H4 s4 nR eR => ?_⟩
 have s24 := s3.trans s4
 refine ⟨_, dv_pts (SqL.of eR) (hP2.on s24), _, dv_pts (SqL.of (s24 _ _ eL2)) (hP2.on s24), y1, y1, y2, ?_⟩
 rw [y3, if_neg (by decide)]
 refine ⟨by decide, fun p1 n1 => ⟨p1, [], [], rfl, upd_same, Gts.nil, .inl rfl, fun H5 s5 => ⟨true, rfl, ?_⟩⟩⟩
 rw [if_neg (by decide)]
 have s25 := s24.trans ((same_upd n1 _).trans s5)
 clear s3 s4 s5 n1 hx h1 h2 eR nR s24
 dsimp only [a_seq]
 k_typeOf
 refine ⟨_, s25.seq hA2, fun S nS => ?_⟩
 obtain ⟨cs, hcs, lcs⟩ : ∃ cs : List Int, cutV (ns.map V.int) (some 19) (some 40) = cs.map V.int ∧ cs.length <= 63 := ⟨_, cutV_map _ _ _, by rw [List.length_take, List.length_drop]; omega⟩
 rw [hcs]
 have v6 := same_upd nS (.lst (cs.map V.int))
 obtain ⟨Pv, hPv⟩ : ∃ Pv : Nat -> L2.St -> Hp -> Prop, ∀ i σ H', Pv i σ H' ↔ ∃ r3 : Option V, σ = [some (V.ref A), some (V.ref L), some (V.ref B), r3, none] ∧ Same H2 H' ∧ H' S = some (.lst (cs.map V.int)) := ⟨_, fun _ _ _ => Iff.rfl⟩
 refine ⟨⟨_, SqL.of upd_same⟩, lp_list (xs := cs.map V.int) Pv ((hPv _ _ _).mpr ⟨none, rfl, s25.trans v6, upd_same⟩) (fun i σ H' _ z => by obtain ⟨_, _, _, z⟩ := (hPv i σ H').mp z; exact SqL.of z) ?_ ?_⟩
 ·intro i v σ H' hv hp
  obtain ⟨r3, rfl, w, eS⟩ := (hPv _ _ _).mp hp
  rw [List.getElem?_map] at hv
  obtain ⟨c, hc, rfl⟩ := Option.map_eq_some_iff.mp hv
  k_units
  refine ⟨B, L, c, rs, ps, rfl, nLB, w _ _ eB, w _ _ eL2, hP2.on w, hO, l1, l6, fun H'' s'' => ⟨true, rfl, ?_⟩⟩
  rw [if_neg (by decide)]
  exact (hPv _ _ _).mpr ⟨_, rfl, w.trans s'', s'' _ _ eS⟩
 intro σ H6 hp
 obtain ⟨r3, rfl, s6, _⟩ := (hPv _ _ _).mp hp
 clear hp hPv Pv v6 hcs nS s25
 dsimp only [a_seq]
 k_typeOf
 refine ⟨A, ns, 0, rfl, s6.seq hA2, _, 11, rfl, by decide, _, rfl, by decide, ?_⟩
 have m0 := mixV_nn (cell ns 0) 11
 obtain ⟨many, hmany, mn1, mn2⟩ : ∃ many : Nat, 7 + mixV (cell ns 0) 11 % 6 = (many : Int) ∧ 7 <= many ∧ many <= 12 := ⟨(7 + mixV (cell ns 0) 11 % 6).toNat, by omega, by omega, by omega⟩
 rw [hmany]
 clear hmany m0
 dsimp only [a_seq]
 k_typeOf
 obtain ⟨I, hI⟩ : ∃ I : Nat -> L2.St -> Hp -> Prop, ∀ m σ H', I m σ H' ↔ ∃ (hs : List Addr) (ws : List Prt), σ = [some (V.ref A), some (V.ref L), some (V.ref B), r3, some (V.int (many : Int))] ∧ KB B H6 H' ∧ H' B = some (.lst (hs.map V.ref)) ∧ Pts H' hs ws ∧ (∀ p ∈ ws, PrtOk p) ∧ 1 <= hs.length ∧ hs.length <= 12 ∧ m = 12 - hs.length := ⟨_, fun _ _ _ => Iff.rfl⟩
 refine while_of I _ ((hI _ _ _).mpr ⟨rs, ps, rfl, KB.of (Same.refl _), s6 _ _ eB, hP2.on s6, hO, by omega, by omega, rfl⟩) ?_
 intro m σ H7 hi
 obtain ⟨hs, ws, rfl, kb, eH, hW, oW, k1, k12, rfl⟩ := (hI _ _ _).mp hi
 have eL7 := kb _ _ nLB (s6 _ _ eL2)
 have hP7 := (hP2.on s6).kt (kb.kt (s6 _ _ eB))
 have lhm : (hs.map V.ref).length = hs.length := List.length_map _
 have lrm : (rs.map V.ref).length = rs.length := List.length_map _
 k_units
 refine ⟨_, .inl (SqL.of eH), ?_⟩
 rw [lhm]
 refine ite2 (fun z => ?_) (fun z => ?_)
 ·obtain ⟨i, hi1, il⟩ : ∃ i : Nat, (hs.length : Int) % ((rs.map V.ref).length : Int) = (i : Int) ∧ i < rs.length := by
   rw [lrm]
   exact ⟨hs.length % rs.length, by rw [Int.natCast_emod], Nat.mod_lt _ (by omega)⟩
  have ip : i < ps.length := by omega
  refine ⟨I (12 - (hs.length + 1)), fun σ' H' z => ⟨_, by omega, z⟩, a_tyL (SqL.of eH), _, .inl (SqL.of eH), _, .inl (SqL.of eL7), by rw [lrm]; omega, _, SqL.of eL7, V.ref rs[i], ?_, _, eH, by rw [lhm]; exact small1000 (by omega), (hI _ _ _).mpr ⟨hs ++ [rs[i]], ws ++ [ps[i]], rfl, kb.set, by rw [upd_same, List.map_append]; rfl, ?_, fun p hp => ?_, by simp, by simp; omega, by simp⟩⟩
  ·rw [lhm, hi1]; exact atI_nat (by rw [List.getElem?_map, List.getElem?_eq_getElem il]; rfl)
  ·have kt := KB.kt (KB.set (o := .lst (hs.map V.ref ++ [V.ref rs[i]])) (KB.of (Same.refl H7))) eH
   exact (hW.kt kt).snoc ((hP7.get i _ _ (List.getElem?_eq_getElem il) (List.getElem?_eq_getElem ip)).kt kt)
  ·rcases List.mem_append.mp hp with y | y
   ·exact oW p y
   ·rw [List.mem_singleton.mp y]; exact hO _ (List.getElem_mem ip)
 have lw := hW.len
 refine ⟨B, hs, _, rfl, eH, hW.g, .inr (.inl (by rw [List.length_map]; omega)), fun H8 s8 => ⟨true, rfl, ?_⟩⟩
 rw [if_neg (by decide)]
 have eH8 := s8 _ _ eH
 have hW8 := hW.on s8
 have h7 : 7 <= hs.length := by omega
 clear hi hI I eH hW s8 kb eL7 hP7 lhm lrm
 obtain ⟨J, hJ⟩ : ∃ J : Nat -> L2.St -> Hp -> Prop, ∀ m σ H', J m σ H' ↔ ∃ (us : List Addr) (zs : List Prt), σ = [some (V.ref A), some (V.ref L), some (V.ref B), r3, some (V.int (many : Int))] ∧ H' B = some (.lst (us.map V.ref)) ∧ Pts H' us zs ∧ (∀ p ∈ zs, PrtOk p) ∧ 6 <= us.length ∧ m = us.length := ⟨_, fun _ _ _ => Iff.rfl⟩
 refine while_of J _ ((hJ _ _ _).mpr ⟨hs, ws, rfl, eH8, hW8, oW, by omega, rfl⟩) ?_
 intro m σ H9 hj
 obtain ⟨us, zs, rfl, eU, hU, oU, u6, rfl⟩ := (hJ _ _ _).mp hj
 have lum : (us.map V.ref).length = us.length := List.length_map _
 have lu := hU.len
 k_units
 refine ⟨_, .inl (SqL.of eU), ?_⟩
 rw [lum]
 refine ite2 (fun z => ?_) (fun z => ?_)
 ·have ul : us.length - 1 < us.length := by omega
  refine ⟨J (us.length - 1), fun σ' H' y => ⟨_, by omega, y⟩, a_tyL (SqL.of eU), _, eU, V.ref us[us.length - 1], by rw [lum, List.getElem?_map, List.getElem?_eq_getElem ul]; rfl, (hJ _ _ _).mpr ⟨us.dropLast, zs.dropLast, rfl, by rw [upd_same, List.map_dropLast], ⟨by simp [lu], fun i r p e1 e2 => ?_⟩, fun p hp => oU p (List.mem_of_mem_take (by rw [← List.dropLast_eq_take]; exact hp)), by simp; omega, by simp⟩⟩
  rw [List.dropLast_eq_take] at e1 e2
  have hi1 := (List.getElem?_eq_some_iff.mp e1).1
  rw [List.length_take] at hi1
  rw [List.getElem?_take_of_lt (by omega)] at e1
  rw [List.getElem?_take_of_lt (by omega)] at e2
  exact (hU.get i r p e1 e2).kt (KB.kt (KB.set (KB.of (Same.refl H9))) eU)
 obtain ⟨x1, x2, x3⟩ := pts_ok zs
 refine mk_term eU hU oU (by omega) (by omega) fun t Ha sa ht => ?_
 obtain ⟨dt, T1, T2', ts, g1, g2⟩ := id ht
 refine ⟨dt, _, g1, rfl, t, H9, us, zs, rfl, ht, fun R2 Hb sb nR2 eR2 => ?_⟩
 have sab := sa.trans sb
 refine ⟨_, dv_pts (SqL.of eR2) (hU.on sab), _, dv_pts (SqL.of (sab _ _ eU)) (hU.on sab), x1, x1, x2, ?_⟩
 rw [x3]
 exact q Hb
theorem ln_1 {us : List Value} (h : us.length = 1) : ∃ x0, us = [x0] := by
 match us, h with
 | [x0], _ => exact ⟨x0, rfl⟩
theorem ln_2 {us : List Value} (h : us.length = 2) : ∃ x0 x1, us = [x0, x1] := by
 match us, h with
 | [x0, x1], _ => exact ⟨x0, x1, rfl⟩
theorem ln_3 {us : List Value} (h : us.length = 3) : ∃ x0 x1 x2, us = [x0, x1, x2] := by
 match us, h with
 | [x0, x1, x2], _ => exact ⟨x0, x1, x2, rfl⟩
local macro_rules | `(tactic| o_law) => `(tactic| (intro _ _ _ _ _ _ us hl; first | (obtain ⟨x0, e⟩ := ln_1 hl; subst e; rfl) | (obtain ⟨x0, x1, e⟩ := ln_2 hl; subst e; rfl) | (obtain ⟨x0, x1, x2, e⟩ := ln_3 hl; subst e; rfl)))
abbrev fdK (x q : Str) (st : Stmt) (pm : Value) (c : Nat) : FuncData := PySem.W.fnOf x q (defArgs st) (defBody st) (defScope st) .none .none .none pm none (.ref c) .none
abbrev FU (P : Params) (x q : Str) (st : Stmt) (f : Addr) (pm : Value) (c : Nat) : Prop := Fun (KK P) x q st f (fdK x q st pm c)
theorem fuk {P : Params} {x q : Str} {st : Stmt} {f : Addr} {pm : Value} {c : Nat} (l : (KK P).lookup f = some ⟨.type "function", none, .func (fdK x q st pm c), #[]⟩) (h : PySem.W.codeIn (KK P) (.ref c) q = true) (k : PySem.W.keepIn (KK P) (.ref f) = true) : FU P x q st f pm c := fun_mk l h k
abbrev pm0 : Value := .str "sumcraft.parts" 458
abbrev pm1 : Value := .str "sumcraft.terms" 822
abbrev pm2 : Value := .str "law_sumcraft_k56_terms_refused" 935
theorem kf0 (P : Params) : FU P "low_forms" "low_forms" s_low_forms 227 pm0 226 := fuk (by kernel_rfl) (by kernel_rfl) (by kernel_rfl)
theorem kf1 (P : Params) : FU P "within" "within" s_within 482 pm1 481 := fuk (by kernel_rfl) (by kernel_rfl) (by kernel_rfl)
theorem kf2 (P : Params) : FU P "check_choose" "check_choose" s_check_choose 489 pm1 488 := fuk (by kernel_rfl) (by kernel_rfl) (by kernel_rfl)
theorem kf3 (P : Params) : FU P "check_base" "check_base" s_check_base 496 pm1 495 := fuk (by kernel_rfl) (by kernel_rfl) (by kernel_rfl)
theorem kf4 (P : Params) : FU P "piece_of" "piece_of" s_piece_of 503 pm1 502 := fuk (by kernel_rfl) (by kernel_rfl) (by kernel_rfl)
theorem kf5 (P : Params) : FU P "_law_cell_at" "_law_cell_at" s__law_cell_at 558 pm2 557 := fuk (by kernel_rfl) (by kernel_rfl) (by kernel_rfl)
theorem kf6 (P : Params) : FU P "_law_number" "_law_number" s__law_number 565 pm2 564 := fuk (by kernel_rfl) (by kernel_rfl) (by kernel_rfl)
theorem kf7 (P : Params) : FU P "_law_divisor" "_law_divisor" s__law_divisor 572 pm2 571 := fuk (by kernel_rfl) (by kernel_rfl) (by kernel_rfl)
theorem kf8 (P : Params) : FU P "_law_mixed" "_law_mixed" s__law_mixed 579 pm2 578 := fuk (by kernel_rfl) (by kernel_rfl) (by kernel_rfl)
theorem kf9 (P : Params) : FU P "_law_forms" "_law_forms" s__law_forms 586 pm2 585 := fuk (by kernel_rfl) (by kernel_rfl) (by kernel_rfl)
theorem kf10 (P : Params) : FU P "_law_ratio" "_law_ratio" s__law_ratio 593 pm2 592 := fuk (by kernel_rfl) (by kernel_rfl) (by kernel_rfl)
theorem kf11 (P : Params) : FU P "_law_part" "_law_part" s__law_part 598 pm2 597 := fuk (by kernel_rfl) (by kernel_rfl) (by kernel_rfl)
theorem kf12 (P : Params) : FU P "_law_parts" "_law_parts" s__law_parts 603 pm2 602 := fuk (by kernel_rfl) (by kernel_rfl) (by kernel_rfl)
theorem kf13 (P : Params) : FU P "_law_is" "_law_is" s__law_is 608 pm2 607 := fuk (by kernel_rfl) (by kernel_rfl) (by kernel_rfl)
theorem kf14 (P : Params) : FU P "_law_beyond" "_law_beyond" s__law_beyond 615 pm2 614 := fuk (by kernel_rfl) (by kernel_rfl) (by kernel_rfl)
theorem kf15 (P : Params) : FU P "_law_fallen" "_law_fallen" s__law_fallen 622 pm2 621 := fuk (by kernel_rfl) (by kernel_rfl) (by kernel_rfl)
theorem kf16 (P : Params) : FU P "_law_no_part" "_law_no_part" s__law_no_part 629 pm2 628 := fuk (by kernel_rfl) (by kernel_rfl) (by kernel_rfl)
theorem kf17 (P : Params) : FU P "_law_refused" "_law_refused" s__law_refused 636 pm2 635 := fuk (by kernel_rfl) (by kernel_rfl) (by kernel_rfl)
theorem kf18 (P : Params) : FU P "_law_spoiled" "_law_spoiled" s__law_spoiled 643 pm2 642 := fuk (by kernel_rfl) (by kernel_rfl) (by kernel_rfl)
theorem kf19 (P : Params) : FU P "law" "law" s_law 650 pm2 649 := fuk (by kernel_rfl) (by kernel_rfl) (by kernel_rfl)
theorem kf20 (P : Params) : FU P "__init__" "Choose.__init__" s_Choose___init__ 311 pm0 310 := fuk (by kernel_rfl) (by kernel_rfl) (by kernel_rfl)
theorem kf21 (P : Params) : FU P "__init__" "Weight.__init__" s_Weight___init__ 368 pm0 367 := fuk (by kernel_rfl) (by kernel_rfl) (by kernel_rfl)
theorem kf22 (P : Params) : FU P "__init__" "Power.__init__" s_Power___init__ 401 pm0 400 := fuk (by kernel_rfl) (by kernel_rfl) (by kernel_rfl)
theorem kf23 (P : Params) : FU P "__init__" "Growth.__init__" s_Growth___init__ 448 pm0 447 := fuk (by kernel_rfl) (by kernel_rfl) (by kernel_rfl)
theorem kf24 (P : Params) : FU P "__init__" "Term.__init__" s_Term___init__ 522 pm1 521 := fuk (by kernel_rfl) (by kernel_rfl) (by kernel_rfl)
theorem kf25 (P : Params) : FU P "told" "Term.told" s_Term_told 529 pm1 528 := fuk (by kernel_rfl) (by kernel_rfl) (by kernel_rfl)
theorem kx0 (P : Params) : ∀ H : Hp, SqT (KK P) H 477 [.int (3), .int (3), .int (9)] := fun H => .inr ⟨⟨.type "tuple", none, .seq #[.int (3) 837, .int (3) 838, .int (9) 839], #[]⟩, _, _, by kernel_rfl, rfl, rfl, by decide, .cons ⟨_, rfl⟩ (.cons ⟨_, rfl⟩ (.cons ⟨_, rfl⟩ .nil))⟩
theorem kx1 (P : Params) : ∀ H : Hp, SqT (KK P) H 475 [.int (0), .int (0), .int (0)] := fun H => .inr ⟨⟨.type "tuple", none, .seq #[.int (0) 826, .int (0) 827, .int (0) 828], #[]⟩, _, _, by kernel_rfl, rfl, rfl, by decide, .cons ⟨_, rfl⟩ (.cons ⟨_, rfl⟩ (.cons ⟨_, rfl⟩ .nil))⟩
theorem kx2 (P : Params) : ∀ H : Hp, SqT (KK P) H 476 [.int (-3), .int (-3), .int (-9)] := fun H => .inr ⟨⟨.type "tuple", none, .seq #[.int (-3) 831, .int (-3) 833, .int (-9) 835], #[]⟩, _, _, by kernel_rfl, rfl, rfl, by decide, .cons ⟨_, rfl⟩ (.cons ⟨_, rfl⟩ (.cons ⟨_, rfl⟩ .nil))⟩
theorem walk {l : PySem.W.OpenLaw} {q : Program} {loose : List Str} {XP : (Str -> Option Value) -> Heap -> Prop} {YP : World -> Heap -> Prop} {d : DefRec} {K : Params -> PySem.W.Frag} (hn : l.most = some 63) (hdf : d.params.defaults = [])
  (hY : ∀ (w : World) (h : Heap), YP w h -> (K w.params).In h)
  (F : ∀ (w : World) (mg : Str -> Option Value) (fa : Addr) (h : Heap), (K w.params).In h -> h.Ns mainGlobals mg -> mg d.name = some (.ref fa) ->
   ∃ T : Tx (K w.params) mg, T.a_law = fa ∧ ∀ (s : Shared) (v : Value), BindsTo s T.fd_law ⟨[v], []⟩ [("_law_script", v)]) :
  PySem.W.WalkO q loose XP YP l.row.toRowW d [] (fun f vs => PySem.call f vs) :=
 L2.walk_of (n := 63) (k := 30) (x := "_law_script") (CX := fun _ => CX0) (sp := fun w => spLaw (K w.params)) hn (by decide) hdf ⟨rfl, by decide, by decide⟩ hY
  (fun w mg fa h KX G hmg => by
   obtain ⟨T, e, hb⟩ := F w mg fa h KX G hmg
   subst e
   exact ⟨T.fd_law, hb, fun base _ _ => FnOk.mono (ok_law T) (by decide)⟩)
  (fun _ H a ns hl _ hS => ⟨a, ns, rfl, hS, hl, fun _ => rfl⟩) fun _ _ _ _ _ z => z
theorem facts (w : World) (mg : Str -> Option Value) (fa : Addr) (h : Heap) (KX : (KK w.params).In h) (G : h.Ns mainGlobals mg) (hmg : mg "law" = some (.ref fa)) :
  ∃ T : Tx (KK w.params) mg, T.a_law = fa ∧ ∀ (s : Shared) (v : Value), BindsTo s T.fd_law ⟨[v], []⟩ [("_law_script", v)] := by
 have ma : ∀ {x : Str} {f : Addr}, PySem.W.nsIn (KK w.params) mainGlobals x = some (some (.ref f)) -> mg x = some (.ref f) := fun e => PySem.W.mg_of KX G e
 have mi : ∀ {x : Str} {i : Int} {t : Tok}, PySem.W.nsIn (KK w.params) mainGlobals x = some (some (.int i t)) -> mg x = some (.int i t) := fun e => PySem.W.mg_of KX G e
 have mz : ∀ {x : Str}, PySem.W.nsIn (KK w.params) mainGlobals x = some none -> mg x = none := fun e => PySem.W.mg_none_of KX G e
 have e := hmg.symm.trans (ma (f := 650) (by kernel_rfl))
 cases e
 exact ⟨⟨_, _, kf0 _, ma (by kernel_rfl), (kf0 _).binds (by o_law), _, _, kf1 _, ma (by kernel_rfl), (kf1 _).binds (by o_law), _, _, kf2 _, ma (by kernel_rfl), (kf2 _).binds (by o_law), _, _, kf3 _, ma (by kernel_rfl), (kf3 _).binds (by o_law), _, _, kf4 _, ma (by kernel_rfl), (kf4 _).binds (by o_law), _, _, kf5 _, ma (by kernel_rfl), (kf5 _).binds (by o_law), _, _, kf6 _, ma (by kernel_rfl), (kf6 _).binds (by o_law), _, _, kf7 _, ma (by kernel_rfl), (kf7 _).binds (by o_law), _, _, kf8 _, ma (by kernel_rfl), (kf8 _).binds (by o_law), _, _, kf9 _, ma (by kernel_rfl), (kf9 _).binds (by o_law), _, _, kf10 _, ma (by kernel_rfl), (kf10 _).binds (by o_law), _, _, kf11 _, ma (by kernel_rfl), (kf11 _).binds (by o_law), _, _, kf12 _, ma (by kernel_rfl), (kf12 _).binds (by o_law), _, _, kf13 _, ma (by kernel_rfl), (kf13 _).binds (by o_law), _, _, kf14 _, ma (by kernel_rfl), (kf14 _).binds (by o_law), _, _, kf15 _, ma (by kernel_rfl), (kf15 _).binds (by o_law), _, _, kf16 _, ma (by kernel_rfl), (kf16 _).binds (by o_law), _, _, kf17 _, ma (by kernel_rfl), (kf17 _).binds (by o_law), _, _, kf18 _, ma (by kernel_rfl), (kf18 _).binds (by o_law), _, _, kf19 _, ma (by kernel_rfl), (kf19 _).binds (by o_law), _, _, kf20 _, (kf20 _).binds (by o_law), _, _, kf21 _, (kf21 _).binds (by o_law), _, _, kf22 _, (kf22 _).binds (by o_law), _, _, kf23 _, (kf23 _).binds (by o_law), _, _, kf24 _, (kf24 _).binds (by o_law), _, _, kf25 _, (kf25 _).binds (by o_law), 116, ma (by kernel_rfl), by kernel_rfl, 24, ma (by kernel_rfl), 61, ma (by kernel_rfl), 80, ma (by kernel_rfl), 128, ma (by kernel_rfl), 140, ma (by kernel_rfl), 152, ma (by kernel_rfl), 49, ma (by kernel_rfl), 92, ma (by kernel_rfl), 37, ma (by kernel_rfl), 104, ma (by kernel_rfl), 352, ma (by kernel_rfl), ⟨by kernel_rfl, by kernel_rfl, by kernel_rfl, by kernel_rfl⟩, ⟨by kernel_rfl, by kernel_rfl, by kernel_rfl, by kernel_rfl⟩, by show PySem.W.findIn _ _ _ = _; kernel_rfl, by show PySem.W.findIn _ _ _ = _; kernel_rfl, 472, ma (by kernel_rfl), ⟨by kernel_rfl, by kernel_rfl, by kernel_rfl, by kernel_rfl⟩, ⟨by kernel_rfl, by kernel_rfl, by kernel_rfl, by kernel_rfl⟩, by show PySem.W.findIn _ _ _ = _; kernel_rfl, 293, ma (by kernel_rfl), ⟨by kernel_rfl, by kernel_rfl, by kernel_rfl, by kernel_rfl⟩, 432, ma (by kernel_rfl), ⟨by kernel_rfl, by kernel_rfl, by kernel_rfl, by kernel_rfl⟩, ⟨by kernel_rfl, by kernel_rfl, by kernel_rfl, by kernel_rfl⟩, by show PySem.W.findIn _ _ _ = _; kernel_rfl, 547, ma (by kernel_rfl), ⟨by kernel_rfl, by kernel_rfl, by kernel_rfl, by kernel_rfl⟩, ⟨by kernel_rfl, by kernel_rfl, by kernel_rfl, by kernel_rfl⟩, ⟨by kernel_rfl, by kernel_rfl, by kernel_rfl⟩, by show PySem.W.findIn _ _ _ = _; kernel_rfl, by show PySem.W.findIn _ _ _ = _; kernel_rfl, 385, ma (by kernel_rfl), ⟨by kernel_rfl, by kernel_rfl, by kernel_rfl, by kernel_rfl⟩, ⟨by kernel_rfl, by kernel_rfl, by kernel_rfl, by kernel_rfl⟩, by show PySem.W.findIn _ _ _ = _; kernel_rfl, ⟨by kernel_rfl, by kernel_rfl, by kernel_rfl, by kernel_rfl⟩, ⟨by kernel_rfl, by kernel_rfl, by kernel_rfl, by kernel_rfl, by kernel_rfl, by kernel_rfl, by kernel_rfl, by kernel_rfl⟩, by kernel_rfl, by kernel_rfl, by kernel_rfl, by kernel_rfl, by kernel_rfl, by kernel_rfl, by kernel_rfl, by kernel_rfl, by kernel_rfl, by kernel_rfl, by kernel_rfl, mz (by kernel_rfl), mz (by kernel_rfl), mz (by kernel_rfl), mz (by kernel_rfl), mz (by kernel_rfl), mz (by kernel_rfl), mz (by kernel_rfl), mz (by kernel_rfl), mz (by kernel_rfl), ⟨824, mi (by kernel_rfl)⟩, ⟨477, ma (by kernel_rfl), kx0 _⟩, ⟨475, ma (by kernel_rfl), kx1 _⟩, ⟨476, ma (by kernel_rfl), kx2 _⟩⟩, rfl, fun s v => .of_eq rfl⟩
end My
open PySem PySem.W PyProof.Rows
set_option maxRecDepth 100000 in
set_option maxHeartbeats 0 in
theorem PySem.Challenge.cw_sumcraft_k56_terms_refused_holds : PySem.Challenge.rw_sumcraft_k56_terms_refused.Holds := by
 refine holds_law My.h_well fun said => ?_
 refine holds_open (r := PySem.Challenge.rw_sumcraft_k56_terms_refused.row)
  (q := My.qv) (loose := []) (Xt := My.xt)
  (XP := XL My.qv []) (Yf := My.hk.obs) (Ya := My.hk.val)
  (YP := My.hk.says) (N := 11530)
  My.left My.hk.of My.hk.keeps
  (fun s e => xl_of s (Bool.and_eq_true_iff.mp e).1)
  XL.keeps (by rfl) (by rfl) (by rfl)
  (fun s e => recFacts_of (Bool.and_eq_true_iff.mp e).2)
  (by rfl) said (by decide +kernel)
  My.h_bare ?wit ?go
 case wit => w_witness2
 case go => exact My.walk (l := PySem.Challenge.rw_sumcraft_k56_terms_refused) rfl rfl (fun w h Y => kIn_of Y) My.facts
