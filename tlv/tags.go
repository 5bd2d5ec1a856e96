package tlv

import "bulla/api"

// contexts is how many numbers a context's tag may have.
const contexts = 16

// Known tells whether a tag is known.
func Known(tag int) bool {
	switch tag {
	case api.TagBool, api.TagInt, api.TagBits, api.TagOctets, api.TagNull, api.TagOID,
		api.TagEnum, api.TagText, api.TagMoment:
		return true
	}
	return Made(tag)
}

// Made tells whether a tag's elements are made of others.
func Made(tag int) bool {
	return tag == api.TagList || tag == api.TagSet || isContext(tag)
}

// isContext tells whether a tag is a context's, of whatever number.
func isContext(tag int) bool {
	return api.TagContext <= tag && tag < api.TagContext+contexts
}
